import PyProof.Rows.All
import Wide.All
import OpenK.AllK
import Wide.FinOn
import Lean
import PyProof.EqAt
import PyProof.EqKinds
import PyProof.TupleCall
import PyProof.P3In
import PyProof.NeData
import KE.KMinKey
import PyProof.Rows.CallKwBuiltin
import PyProof.LayNew
import PyProof.EnumFor
import PyProof.EnumMake
import PyProof.EnumStmt
import KE.KRevIter
import KE.KRevSl
import PyProof.StationsW
import PyProof.RulesAs
import KE.KTryMore
import PyProof.Rows.TopTwo
import PyProof.NsDelKeeps
import PyProof.ExcArgsOwn
import KE.KIsAll
import PyProof.AutoListH
import PySem.Challenge.RW_waithands_k70_yards_written
set_option Elab.async false
set_option linter.all false
set_option maxRecDepth 100000
/-! THE HAND LAYER, for ints, bools, texts, own classes, LISTS and tuples (index, slices, in, append, pop ..), calls, loops. Paste it whole ahead of your own text; what your proof does not reach may be deleted. -/
namespace L2
open PySem PySem.Spec PyProof.Rows

/-- a key: an int or a str -/
abbrev Key := Sum Int Str
def keyIs : Key → Value → Bool
  | .inl k, v => Value.isInt k v
  | .inr x, v => Value.isStrOf x v
def keyH (w : World) : Key → Int
  | .inl k => hashInt k
  | .inr x => hashStr w x
theorem keyIs_shape : ∀ {k : Key} {v : Value}, keyIs k v = true → (∃ i t, k = Sum.inl i ∧ v = Value.int i t) ∨ (∃ x t, k = Sum.inr x ∧ v = Value.str x t)
  | .inl i, v, h => by
    obtain ⟨t, e⟩ := Value.isInt_shape (k := i) (v := v) h
    exact .inl ⟨i, t, rfl, e⟩
  | .inr x, v, h => by
    obtain ⟨t, e⟩ := Value.isStrOf_shape (x := x) (v := v) h
    exact .inr ⟨x, t, rfl, e⟩
theorem key_ll (a b : Int) : decide ((Sum.inl a : Key) = Sum.inl b) = (a == b) := by
  by_cases e : a = b
  · subst e; simp
  · have h : ¬ (Sum.inl a : Key) = Sum.inl b := fun q => e (Sum.inl.inj q)
    rw [decide_eq_false h]
    exact (beq_eq_false_iff_ne.mpr e).symm
theorem key_rr (a b : Str) : decide ((Sum.inr a : Key) = Sum.inr b) = decide (a = b) := by
  by_cases e : a = b
  · subst e; simp
  · have h : ¬ (Sum.inr a : Key) = Sum.inr b := fun q => e (Sum.inr.inj q)
    rw [decide_eq_false h, decide_eq_false e]
theorem key_lr (a : Int) (b : Str) : decide ((Sum.inl a : Key) = Sum.inr b) = false := decide_eq_false (fun q => nomatch q)
theorem key_rl (a : Str) (b : Int) : decide ((Sum.inr a : Key) = Sum.inl b) = false := decide_eq_false (fun q => nomatch q)

def mixKind (prog : Program) (w : World) : PySem.KeyKind prog w Key where
  is := keyIs
  hash := keyH w
  inj := fun v a b ha hb => by
    rcases keyIs_shape ha with ⟨i, t, rfl, rfl⟩ | ⟨x, t, rfl, rfl⟩
    · rcases keyIs_shape hb with ⟨j, u, rfl, e⟩ | ⟨y, u, rfl, e⟩
      · injection e with e1 _; rw [e1]
      · exact nomatch e
    · rcases keyIs_shape hb with ⟨j, u, rfl, e⟩ | ⟨y, u, rfl, e⟩
      · exact nomatch e
      · injection e with e1 _; rw [e1]
  byValue := fun k v h => by
    rcases keyIs_shape h with ⟨i, t, rfl, rfl⟩ | ⟨x, t, rfl, rfl⟩ <;> rfl
  pyHash := fun hv h => by
    rcases keyIs_shape hv with ⟨i, t, rfl, rfl⟩ | ⟨x, t, rfl, rfl⟩
    · exact wpAny_pyHash_int h
    · exact wpAny_pyHash_str h
  eqBool := fun hu hv h => by
    rcases keyIs_shape hu with ⟨i, t, rfl, rfl⟩ | ⟨x, t, rfl, rfl⟩
    · rcases keyIs_shape hv with ⟨j, u, rfl, rfl⟩ | ⟨y, u, rfl, rfl⟩
      · rw [key_ll] at h; exact wpAny_eqBool_int h
      · rw [key_lr] at h; exact SeqAt.EqAt.int_str i t y u _ _ _ _ h
    · rcases keyIs_shape hv with ⟨j, u, rfl, rfl⟩ | ⟨y, u, rfl, rfl⟩
      · rw [key_rl] at h; exact SeqAt.EqAt.str_int x t j u _ _ _ _ h
      · rw [key_rr] at h; exact wpAny_eqBool_str h
  «strs» := fun k x t v h => by
    rcases keyIs_shape h with ⟨i, u, rfl, e⟩ | ⟨y, u, rfl, e⟩
    · exact nomatch e
    · injection e with e1 _
      subst e1
      cases v <;> rfl

end L2

namespace L2
open PySem PySem.Spec PyProof.Rows

/-- a value, without the heap -/
inductive V where
  | non | bl (b : Bool) | int (i : Int) | str (x : Str) | byt (b : Array UInt8) | flt (b : UInt64) | ref (a : Addr) | ty (n : String)
  deriving DecidableEq

def RelV : V → Value → Prop
  | .non, u => u = Value.none
  | .bl b, u => u = Value.bool b
  | .int i, u => ∃ t, u = Value.int i t
  | .str x, u => ∃ t, u = Value.str x t
  | .byt b, u => ∃ t, u = Value.bytes b t
  | .flt b, u => ∃ t, u = Value.float b t
  | .ref a, u => u = Value.ref a
  | .ty n, u => u = Value.type n

abbrev Vals : List V → List Value → Prop := Paired RelV
theorem Vals.length {xs : List V} {us : List Value} (r : Vals xs us) : xs.length = us.length := Paired.length r
theorem Vals.get : ∀ {xs : List V} {us : List Value} {i : Nat} {x : V}, Vals xs us → xs[i]? = some x → ∃ u, us[i]? = some u ∧ RelV x u
  | _, _, _, _, .nil, e => by simp at e
  | _, _, 0, _, .cons r _, e => by simp at e; subst e; exact ⟨_, rfl, r⟩
  | _, _, i + 1, x, .cons _ t, e => by
    obtain ⟨u, h1, h2⟩ := Vals.get (i := i) (x := x) t (by simpa using e)
    exact ⟨u, by simpa using h1, h2⟩
theorem Vals.set {x : V} {u : Value} (r : RelV x u) : ∀ {xs : List V} {us : List Value} (i : Nat), Vals xs us → Vals (xs.set i x) (us.set i u)
  | _, _, _, .nil => .nil
  | _, _, 0, .cons _ t => .cons r t
  | _, _, i + 1, .cons q t => .cons q (Vals.set r i t)
theorem Vals.append : ∀ {xs ys : List V} {us ws : List Value}, Vals xs us → Vals ys ws → Vals (xs ++ ys) (us ++ ws)
  | _, _, _, _, .nil, s => s
  | _, _, _, _, .cons r t, s => .cons r (Vals.append t s)
theorem Vals.take : ∀ {xs : List V} {us : List Value} (n : Nat), Vals xs us → Vals (xs.take n) (us.take n)
  | _, _, 0, _ => .nil
  | _, _, _ + 1, .nil => .nil
  | _, _, n + 1, .cons r t => .cons r (Vals.take n t)
theorem Vals.drop : ∀ {xs : List V} {us : List Value} (n : Nat), Vals xs us → Vals (xs.drop n) (us.drop n)
  | _, _, 0, r => r
  | _, _, _ + 1, .nil => .nil
  | _, _, n + 1, .cons _ t => Vals.drop n t
theorem Vals.none_of : ∀ {xs : List V} {us : List Value} {i : Nat}, Vals xs us → xs[i]? = none → us[i]? = none := fun {xs us i} r e => by
  have h1 := r.length
  have h2 : xs.length ≤ i := List.getElem?_eq_none_iff.mp e
  exact List.getElem?_eq_none_iff.mpr (by omega)

def RelO : Option V → Option Value → Prop
  | some v, some u => RelV v u
  | none, none => True
  | _, _ => False
def KV {κ : Type} : List (κ × V) → List (κ × Value) → Prop := Paired fun (p : κ × V) (q : κ × Value) => p.1 = q.1 ∧ RelV p.2 q.2

/-- a key of a dict (00_mix): an int or a text -/
def kV : Key → V
  | .inl i => .int i
  | .inr x => .str x

/-- what stands at a tracked address -/
inductive HO where
  /-- a list -/
  | lst (xs : List V)
  /-- a tuple (never changes) -/
  | tup (xs : List V)
  /-- a dict whose keys are ints and texts; one whose keys are tuples of ints and texts (the empty one is both) -/
  | dK (kvs : List (Key × V)) | dT (kvs : List (List Key × V))
  /-- a set of ints: its members, its size -/
  | set (S : Int → Bool) (n : Nat)
  /-- an instance of the class at C, its dict at dx, its attributes -/
  | ins (C dx : Addr) (fs : List (Str × V))
  /-- the dict of the instance at x -/
  | own (x : Addr)
  /-- the dict of an exception -/
  | xd (fs : List (Str × V))
  /-- a bound method, f of x -/
  | met (f x : Addr)
  /-- a range object lo, lo + 1, .. below hi -/
  | rng (lo hi : Int)
  /-- a thing that is known to the object (the script; a dict while a loop walks it): read, never written while it is so -/
  | frz (o : Obj) (u : HO)
  /-- a code object's table -/
  | tbl (ps : Array Value)
  /-- any other thing, by what is true of its one object (a def of one's own: SetO a S n := HO.ext fun h => ..) -/
  | ext (φ : Heap → Prop)

abbrev Hp := Addr → Option HO
def upd (H : Hp) (a : Addr) (o : HO) : Hp := fun b => if b = a then some o else H b
theorem upd_same {H : Hp} {a : Addr} {o : HO} : upd H a o a = some o := by unfold upd; rw [if_pos rfl]
theorem upd_ne {H : Hp} {a b : Addr} {o : HO} (h : b ≠ a) : upd H a o b = H b := by unfold upd; rw [if_neg h]
theorem ne_of_none {H : Hp} {a b : Addr} {o : HO} (h : H a = some o) (h' : H b = none) : a ≠ b := by
  intro e; subst e; rw [h] at h'; cases h'

section
variable (P : Program) (w : World)
def ObjOk (H : Hp) (h : Heap) (a : Addr) : HO → Prop
  | .lst xs => xs.length ≤ sizeLine ∧ ∃ (its : List Value) (n : Nat), Vals xs its ∧ h.get? a = some { cls := .type "list", data := .seq its.toArray n }
  | .tup xs => xs.length ≤ sizeLine ∧ ∃ its : List Value, Vals xs its ∧ IsTup h a its.toArray
  | .dK kvs => kvs.length ≤ sizeLine ∧ (a == sysModules) = false ∧ ∃ vs, KV kvs vs ∧ h.DictOf (mixKind P w) a vs
  | .dT kvs => kvs.length ≤ sizeLine ∧ (a == sysModules) = false ∧ ∃ xs : List (List Key × Addr × Value),
      Paired (fun (p : List Key × V) (q : List Key × Addr × Value) => p.1 = q.1 ∧ H q.2.1 = some (.tup (p.1.map kV)) ∧ RelV p.2 q.2.2) kvs xs ∧
      ∃ o es ep, h.get? a = some o ∧ o.ExactDict ∧ o.data = .dict es ep ∧ es.toList = xs.map (entryOfKey (tupleKind (mixKind P w))) ∧ (xs.map (·.1)).Nodup
  | .set S n => h.SetOf (intKind P w) a S n
  | .ins C dx fs => H dx = some (.own a) ∧ fs.length ≤ 1000 ∧ dx ≠ a ∧ h.get? a = some (PySem.W.instObj C dx) ∧
      ∃ mA, h.Ns1 dx mA ∧ (∀ f, RelO (fs.lookup f) (mA f)) ∧ PySem.Within mA (fs.map (·.1))
  | .own _ => ∃ o, h.get? a = some o
  | .xd fs => ∃ mA, h.Ns1 a mA ∧ ∀ f, RelO (fs.lookup f) (mA f)
  | .rng lo hi => ∃ t u v, h.get? a = some { cls := .type "range", data := .fields #[.int lo t, .int hi u, .int 1 v] }
  | .frz o u => h.get? a = some o ∧ ObjOk H h a u
  | .tbl ps => h.get? a = some { cls := .none, data := .fields ps }
  | .met f x => h.get? a = some (PySem.W.methodObj (.ref f) (.ref x))
  | .ext φ => φ h ∧ (∃ o, h.get? a = some o) ∧ ∀ h1 h2 : Heap, φ h1 → (∀ o, h1.get? a = some o → h2.get? a = some o) → φ h2
/-- the abstract heap is held -/
def HOk (H : Hp) (h : Heap) : Prop := ∀ a o, H a = some o → ObjOk P w H h a o
end

section
variable {P : Program} {w : World} {H H' : Hp} {h h' : Heap} {a : Addr} {o : HO}
theorem ObjOk.lt (x : ObjOk P w H h a o) : a < h.objs.size := by
  cases o with
  | lst xs => obtain ⟨_, _, _, _, e⟩ := x; exact Heap.lt_size e
  | tup xs => obtain ⟨_, _, _, p⟩ := x; exact p.lt
  | dK kvs => obtain ⟨_, _, _, _, o, _, _, e, _⟩ := x; exact Heap.lt_size e
  | dT kvs => obtain ⟨_, _, _, _, o, _, _, e, _⟩ := x; exact Heap.lt_size e
  | set S n => obtain ⟨o, _, _, _, e, _⟩ := x; exact Heap.lt_size e
  | ins C dx fs => obtain ⟨_, _, _, e, _⟩ := x; exact Heap.lt_size e
  | own y => obtain ⟨_, e⟩ := x; exact Heap.lt_size e
  | xd fs => obtain ⟨_, ⟨_, _, _, e, _⟩, _⟩ := x; exact Heap.lt_size e
  | rng lo hi => obtain ⟨_, _, _, e⟩ := x; exact Heap.lt_size e
  | frz ob u => obtain ⟨e, _⟩ := x; exact Heap.lt_size e
  | tbl ps => exact Heap.lt_size (show h.get? a = some _ from x)
  | met f y => exact Heap.lt_size (show h.get? a = some _ from x)
  | ext φ => obtain ⟨_, ⟨_, e⟩, _⟩ := x; exact Heap.lt_size e
theorem Paired.mapP {α β : Type} {F G : α → β → Prop} : ∀ {l₁ : List α} {l₂ : List β}, Paired F l₁ l₂ → (∀ a b, F a b → G a b) → Paired G l₁ l₂
  | _, _, .nil, _ => .nil
  | _, _, .cons r t, f => .cons (f _ _ r) (Paired.mapP t f)
/-- what an object's description leans on: its own object, its own dict, the tuples -/
theorem ObjOk.stay (x : ObjOk P w H h a o) (k : ∀ b u, (b = a ∨ H b = some (.own a)) → h.get? b = some u → h'.get? b = some u)
    (ho : ∀ b, H b = some (.own a) → H' b = some (.own a)) (ht : ∀ b xs, H b = some (.tup xs) → H' b = some (.tup xs)) : ObjOk P w H' h' a o := by
  induction o with
  | lst xs => obtain ⟨z, its, n, r, e⟩ := x; exact ⟨z, its, n, r, k _ _ (.inl rfl) e⟩
  | tup xs => obtain ⟨z, its, r, ob, e, c⟩ := x; exact ⟨z, its, r, ob, k _ _ (.inl rfl) e, c⟩
  | dK kvs => obtain ⟨z, y, vs, r, ob, es, ep, e, c⟩ := x; exact ⟨z, y, vs, r, ob, es, ep, k _ _ (.inl rfl) e, c⟩
  | dT kvs =>
    obtain ⟨z, y, xs, r, ob, es, ep, e, c⟩ := x
    exact ⟨z, y, xs, Paired.mapP r fun p q z => ⟨z.1, ht _ _ z.2.1, z.2.2⟩, ob, es, ep, k _ _ (.inl rfl) e, c⟩
  | set S n => obtain ⟨ob, es, ep, t, e, c⟩ := x; exact ⟨ob, es, ep, t, k _ _ (.inl rfl) e, c⟩
  | ins C dx fs =>
    obtain ⟨d, z, ne, e, mA, ⟨od, es, ep, e2, c⟩, r⟩ := x
    exact ⟨ho _ d, z, ne, k _ _ (.inl rfl) e, mA, ⟨od, es, ep, k _ _ (.inr d) e2, c⟩, r⟩
  | own y => obtain ⟨ob, e⟩ := x; exact ⟨ob, k _ _ (.inl rfl) e⟩
  | xd fs => obtain ⟨mA, ⟨od, es, ep, e, c⟩, r⟩ := x; exact ⟨mA, ⟨od, es, ep, k _ _ (.inl rfl) e, c⟩, r⟩
  | rng lo hi => obtain ⟨t, u, v, e⟩ := x; exact ⟨t, u, v, k _ _ (.inl rfl) e⟩
  | frz ob u ih => obtain ⟨e, q⟩ := x; exact ⟨k _ _ (.inl rfl) e, ih q⟩
  | tbl ps =>
    have e : h.get? a = some { cls := .none, data := .fields ps } := x
    show h'.get? a = some { cls := .none, data := .fields ps }
    exact k a _ (.inl rfl) e
  | met f y =>
    have e : h.get? a = some (PySem.W.methodObj (.ref f) (.ref y)) := x
    show h'.get? a = some (PySem.W.methodObj (.ref f) (.ref y))
    exact k a _ (.inl rfl) e
  | ext φ => obtain ⟨p, ⟨o, e⟩, st⟩ := x; exact ⟨st _ _ p fun o q => k _ _ (.inl rfl) q, ⟨o, k _ _ (.inl rfl) e⟩, st⟩
theorem HOk.lt (x : HOk P w H h) (e : H a = some o) : a < h.objs.size := (x a o e).lt
theorem HOk.fresh (x : HOk P w H h) (e : h.objs.size ≤ a) : H a = none := by
  cases q : H a with
  | none => rfl
  | some u => exact absurd (Nat.lt_of_lt_of_le (x.lt q) e) (Nat.lt_irrefl _)
/-- every object of the heap is kept -/
theorem HOk.kept (x : HOk P w H h) (k : ∀ b u, h.get? b = some u → h'.get? b = some u) : HOk P w H h' := fun a o e =>
  (x a o e).stay (fun b u _ q => k b u q) (fun _ q => q) fun _ _ q => q
/-- a new object is laid and tracked -/
theorem HOk.laid (x : HOk P w H h) (k : ∀ b u, h.get? b = some u → h'.get? b = some u) (hp : h.objs.size ≤ a) (new : ObjOk P w (upd H a o) h' a o) : HOk P w (upd H a o) h' := fun b u e => by
  have hn := x.fresh hp
  by_cases hb : b = a
  · subst hb; rw [upd_same] at e; cases e; exact new
  · rw [upd_ne hb] at e
    exact (x b u e).stay (fun c v _ q => k c v q) (fun c q => by rw [upd_ne (ne_of_none q hn)]; exact q) fun c xs q => by rw [upd_ne (ne_of_none q hn)]; exact q
end

/-- what may be read as u: it is u, or a known u -/
def Rd (H : Hp) (a : Addr) (u : HO) : Prop := H a = some u ∨ ∃ o, H a = some (.frz o u)
theorem Rd.of {H : Hp} {a : Addr} {u : HO} (h : H a = some u) : Rd H a u := .inl h
theorem Rd.ok {P : Program} {w : World} {H : Hp} {h : Heap} {a : Addr} {u : HO} (r : Rd H a u) (x : HOk P w H h) : ObjOk P w H h a u := by
  rcases r with r | ⟨o, r⟩
  · exact x a u r
  · obtain ⟨_, q⟩ := x a _ r
    exact q
/-- what may be written -/
def Mut : Option HO → Prop
  | some (.lst _) => True
  | some (.dK _) => True
  | some (.dT _) => True
  | some (.set _ _) => True
  | some (.ins _ _ _) => True
  | some (.ext _) => True
  | _ => False
section
variable {P : Program} {w : World} {H : Hp} {h h' : Heap} {x e : Addr} {o' : HO}
/-- the object at e is changed: x itself, or the dict of the instance x -/
theorem HOk.write (ok : HOk P w H h) (mu : Mut (H x)) (he : e = x ∨ H e = some (.own x)) (k : ∀ b u, b ≠ e → h.get? b = some u → h'.get? b = some u) (heo : ∃ u, h'.get? e = some u)
    (new : ObjOk P w (upd H x o') h' x o') : HOk P w (upd H x o') h' := fun b u q => by
  have nown : ∀ c y, H c = some (.own y) → c ≠ x := fun c y r z => by subst z; rw [r] at mu; exact mu
  have ntup : ∀ c xs, H c = some (.tup xs) → c ≠ x := fun c xs r z => by subst z; rw [r] at mu; exact mu
  by_cases hb : b = x
  · subst hb; rw [upd_same] at q; cases q; exact new
  · rw [upd_ne hb] at q
    by_cases hbe : b = e
    · have q' : H b = some (.own x) := by
        rcases he with z | z
        · exact absurd (hbe.trans z) hb
        · rw [hbe]; exact z
      rw [q] at q'; cases q'
      obtain ⟨v, hv⟩ := heo
      exact ⟨v, by rw [hbe]; exact hv⟩
    · refine (ok b u q).stay (fun c v hc r => k c v ?_ r) (fun c r => by rw [upd_ne (nown c b r)]; exact r) fun c xs r => by rw [upd_ne (ntup c xs r)]; exact r
      rcases hc with rfl | hc
      · exact hbe
      · rintro rfl
        rcases he with z | z
        · exact nown c b hc z
        · rw [hc] at z; cases z; exact hb rfl
end

/-! ### kept unless tracked; of the frames at fs (the callers') the slots may change (an exception that passes writes there); of the records at ex (iterators) nothing is said -/
structure Un (fs ex : List Addr) (H H' : Hp) (h h' : Heap) : Prop where
  keep : ∀ b o, h.get? b = some o → H b = none → b ∉ fs → b ∉ ex → h'.get? b = some o
  slot : ∀ b o, h.get? b = some o → H b = none → b ∈ fs → b ∉ ex → ∃ sl, h'.get? b = some { o with slots := sl }
  free : ∀ b o, h.get? b = some o → H b = none → b ∉ ex → H' b = none
  there : ∀ b o, h.get? b = some o → b ∉ ex → ∃ o', h'.get? b = some o'
  tups : ∀ b xs, H b = some (.tup xs) → H' b = some (.tup xs)
  frzs : ∀ b o u, H b = some (.frz o u) → H' b = some (.frz o u)
  tbls : ∀ b ps, H b = some (.tbl ps) → ∃ more, H' b = some (.tbl (ps ++ more))
section
variable {fs fs' ex ex' : List Addr} {H H1 H2 : Hp} {h h1 h2 h' : Heap} {a x e : Addr} {o : HO}
theorem Un.any (u : Un fs ex H H1 h h1) {b : Addr} {ob : Obj} (q : h.get? b = some ob) (n : H b = none) (hx : b ∉ ex) : ∃ sl, h1.get? b = some { ob with slots := sl } := by
  by_cases hb : b ∈ fs
  · exact u.slot b ob q n hb hx
  · exact ⟨ob.slots, u.keep b ob q n hb hx⟩
theorem Un.trans (a : Un fs ex H H1 h h1) (b : Un fs ex H1 H2 h1 h2) : Un fs ex H H2 h h2 where
  keep := fun c ob q n hc hx => b.keep c ob (a.keep c ob q n hc hx) (a.free c ob q n hx) hc hx
  slot := fun c ob q n hc hx => by
    obtain ⟨sl, e1⟩ := a.slot c ob q n hc hx
    obtain ⟨sl', e2⟩ := b.slot c _ e1 (a.free c ob q n hx) hc hx
    exact ⟨sl', e2⟩
  free := fun c ob q n hx => by
    obtain ⟨o', e1⟩ := a.there c ob q hx
    exact b.free c o' e1 (a.free c ob q n hx) hx
  there := fun c ob q hx => by
    obtain ⟨o', e1⟩ := a.there c ob q hx
    exact b.there c o' e1 hx
  tups := fun c xs q => b.tups c xs (a.tups c xs q)
  frzs := fun c ob xs q => b.frzs c ob xs (a.frzs c ob xs q)
  tbls := fun c ps q => by
    obtain ⟨m1, e1⟩ := a.tbls c ps q
    obtain ⟨m2, e2⟩ := b.tbls c _ e1
    exact ⟨m1 ++ m2, by rw [e2, Array.append_assoc]⟩
theorem Un.kept (k : ∀ b u, h.get? b = some u → h'.get? b = some u) : Un fs ex H H h h' :=
  ⟨fun b ob q _ _ _ => k b ob q, fun b ob q _ _ _ => ⟨ob.slots, k b ob q⟩, fun _ _ _ n _ => n, fun b ob q _ => ⟨ob, k b ob q⟩, fun _ _ q => q, fun _ _ _ q => q, fun _ ps q => ⟨#[], by rw [q]; simp⟩⟩
theorem Un.refl : Un fs ex H H h h := Un.kept fun _ _ q => q
theorem Un.laid (k : ∀ b u, h.get? b = some u → h'.get? b = some u) (hp : h.objs.size ≤ a) (hn : H a = none) : Un fs ex H (upd H a o) h h' where
  keep := fun b u q _ _ _ => k b u q
  slot := fun b u q _ _ _ => ⟨u.slots, k b u q⟩
  free := fun b u q n _ => by rw [upd_ne (Nat.ne_of_lt (Nat.lt_of_lt_of_le (Heap.lt_size q) hp))]; exact n
  there := fun b u q _ => ⟨u, k b u q⟩
  tups := fun b xs q => by rw [upd_ne (ne_of_none q hn)]; exact q
  frzs := fun b u xs q => by rw [upd_ne (ne_of_none q hn)]; exact q
  tbls := fun b ps q => ⟨#[], by rw [upd_ne (ne_of_none q hn), q]; simp⟩
theorem Un.write (mu : Mut (H x)) (he : e = x ∨ H e = some (.own x)) (k : ∀ b u, b ≠ e → h.get? b = some u → h'.get? b = some u) (heo : ∃ u, h'.get? e = some u) : Un fs ex H (upd H x o) h h' := by
  have hx : ∀ b, H b = none → b ≠ x := fun b n z => by subst z; rw [n] at mu; exact mu
  have hb : ∀ b, H b = none → b ≠ e := fun b n z => by
    subst z
    rcases he with r | r
    · exact hx b n r
    · rw [n] at r; cases r
  have hm : ∀ b u, H b = some u → ¬ Mut (some u) → b ≠ x := fun b u q nm z => by subst z; rw [q] at mu; exact nm mu
  refine ⟨fun b u q n _ _ => k b u (hb b n) q, fun b u q n _ _ => ⟨u.slots, k b u (hb b n) q⟩, fun b u q n _ => by rw [upd_ne (hx b n)]; exact n, fun b u q _ => ?_,
    fun b xs q => by rw [upd_ne (hm b _ q fun z => z)]; exact q, fun b u xs q => by rw [upd_ne (hm b _ q fun z => z)]; exact q, fun b ps q => ⟨#[], by rw [upd_ne (hm b _ q fun z => z), q]; simp⟩⟩
  by_cases hbe : b = e
  · subst hbe; exact heo
  · exact ⟨u, k b u hbe q⟩
theorem Un.mono (u : Un fs ex H H1 h h1) (hs : ∀ b ∈ fs, b ∈ fs') (hx : ∀ b ∈ ex, b ∈ ex') : Un fs' ex' H H1 h h1 :=
  ⟨fun b ob q n hb he => u.keep b ob q n (fun z => hb (hs b z)) fun z => he (hx b z), fun _ _ q n _ he => u.any q n fun z => he (hx _ z), fun b ob q n he => u.free b ob q n fun z => he (hx b z), fun b ob q he => u.there b ob q fun z => he (hx b z), u.tups, u.frzs, u.tbls⟩
end

/-! ### the heap without what is tracked -/
def trk (h : Heap) (H : Hp) : List Addr := (List.range h.objs.size).filter fun a => (H a).isSome
def hidT (h : Heap) (H : Hp) : Heap := PySem.W.hideAll h (trk h H)
theorem hidT_size (h : Heap) (H : Hp) : (hidT h H).objs.size = h.objs.size := PySem.W.hideAll_size _ _
theorem hidT_get {h : Heap} {H : Hp} {b : Addr} {o : Obj} (e : h.get? b = some o) (n : H b = none) : (hidT h H).get? b = some o :=
  PySem.W.hideAll_get _ e fun hm => by
    have q : (H b).isSome = true := (List.mem_filter.mp hm).2
    rw [n] at q; simp at q
theorem of_hidT {h : Heap} {H : Hp} {b : Addr} {o : Obj} (e : (hidT h H).get? b = some o) : h.get? b = some o ∧ H b = none := by
  have e' : h.get? b = some o := PySem.W.of_hideAll (trk h H) e
  refine ⟨e', ?_⟩
  cases q : H b with
  | none => rfl
  | some x =>
    have hm : b ∈ trk h H := List.mem_filter.mpr ⟨List.mem_range.mpr (Heap.lt_size e'), by simp [q]⟩
    have z : (hidT h H).get? b = none := PySem.W.hideAll_none (trk h H) hm
    rw [z] at e; cases e

/-! ### OpenK's ledger, filled with every new object but one -/
def allNews (g h : Heap) (L : Addr) : List (Addr × Obj) := (List.range h.objs.size).filterMap fun a => if a = L ∨ (g.get? a).isSome = true then none else (h.get? a).map fun o => (a, o)
def rest (g h : Heap) (L d : Addr) : List (Addr × Obj) := (allNews g h L).filter fun p => decide (p.1 ≠ d)
end L2

namespace L2
open PySem PySem.Spec PyProof.Rows

/-- the module's facts, over the base: the heap at the law's entry without what is tracked there -/
structure Mod (K : PySem.W.Frag) (mg : Str → Option Value) (base : Heap) : Prop where
  kin : K.In base
  glob : base.Ns mainGlobals mg
  blt : ∃ mb, base.Ns builtinsNs mb ∧ ∀ x : Str, x ≠ "__name__" → mb x = bootBuiltins x
  nolimit : base.NoLimit

/-- the context: a def's body (or a comprehension's block) running. base: fixed through the whole law; s₀, H₀: the entry; outer: the frames whose slots others may change (a def's callers); stack: all frames that run;
   ex: iterators that were made ahead of the entry and are walked here (a comprehension's); fn: the names whose cells were made at the entry (a def: all; a comprehension's block: its own); calm: not within an except suite; pn: pins that every state bears; xe: what is wanted of an exception that leaves the code -/
structure Cx where
  prog : Program
  w : World
  K : PySem.W.Frag
  mg : Str → Option Value
  base : Heap
  A : Around
  N : List Str
  s₀ : Shared
  H₀ : Hp
  env : Env
  outer : List Env
  stack : List Env
  ex : List Addr
  fn : Str → Bool
  calm : Bool
  pn : List (Addr × Obj)
  xe : Value → Shared → Prop
/-- the callers' frames -/
def frs (l : List Env) : List Addr := l.filterMap (·.frame)
abbrev Cx.fs (X : Cx) : List Addr := frs X.outer

def Vis (sc : Scope) (x : Str) : Prop := sc.names.lookup x = some .local ∨ sc.names.lookup x = some .cell ∨ sc.names.lookup x = some .free
def Loc (sc : Scope) (x : Str) : Prop := sc.names.lookup x = some .local ∨ sc.names.lookup x = some .cell
def Look (env : Env) (h : Heap) (m : Str → Option Value) (x : Str) (u : Value) : Prop :=
  (env.kindOf x = some .local ∧ m x = some u) ∨ ((env.kindOf x = some .cell ∨ env.kindOf x = some .free) ∧ ∃ c, env.cells.lookup x = some c ∧ h.IsCell c (some u))

structure Cx.Ok (X : Cx) : Prop where
  mod : Mod X.K X.mg X.base
  kind : X.env.scope.kind = .function
  glob : X.env.globals = mainGlobals
  blt : X.env.builtins = builtinsNs
  above : X.s₀.heap.objs.size ≤ X.env.locals
  inj : ∀ x y c, X.env.cells.lookup x = some c → X.env.cells.lookup y = some c → x = y
  has : ∀ x, (X.env.kindOf x = some .cell ∨ X.env.kindOf x = some .free) → ∃ c, X.env.cells.lookup x = some c
  cab : ∀ x c, X.fn x = true → X.env.cells.lookup x = some c → X.s₀.heap.objs.size ≤ c
  hd : X.calm = true → X.A.handled = none
  frames : X.A.frames = some X.stack
  stk : X.stack = X.outer ∨ (X.stack = X.env :: X.outer ∧ X.env.frame = some X.env.locals)
  exf : ∀ b ∈ X.ex, b ≠ X.env.locals ∧ ∀ x c, X.env.cells.lookup x = some c → c ≠ b
  bs : ∀ b o, X.base.get? b = some o → X.s₀.heap.get? b = some o ∧ X.H₀ b = none
  bsz : X.base.objs.size ≤ X.s₀.heap.objs.size
  noex : ∀ b o, X.base.get? b = some o → b ∉ X.ex
  exfs : ∀ b ∈ X.ex, b ∉ X.fs
  funs : X.s₀.heap.FunFrames X.base X.outer
  frf : ∀ b ∈ X.fs, X.H₀ b = none

structure Inv (X : Cx) (pins : List (Addr × Obj)) (σ : List (Option V)) (H : Hp) (s : Shared) : Prop where
  ok : X.Ok
  os : s.os = X.s₀.os
  bare : AllBare s.gens
  base : Un X.fs X.ex X.H₀ H X.s₀.heap s.heap
  loc : ∃ m, s.heap.Ns X.env.locals m ∧ ∀ (i : Nat) (x : Str) (v : V), X.N[i]? = some x → σ[i]? = some (some v) → Vis X.env.scope x → ∃ u, RelV v u ∧ Look X.env s.heap m x u
  cell : ∀ x c, X.env.cells.lookup x = some c → ∃ v, s.heap.IsCell c v
  free : H X.env.locals = none
  freeC : ∀ x c, X.env.cells.lookup x = some c → H c = none
  pin : ∀ p ∈ X.pn ++ pins, s.heap.get? p.1 = some p.2 ∧ H p.1 = none ∧ p.1 ≠ X.env.locals ∧ p.1 ∉ X.fs ∧ ∀ v, p.2.data ≠ .cell v
  hok : HOk X.prog X.w H s.heap
  len : σ.length = X.N.length

section
variable {X : Cx} {pins : List (Addr × Obj)} {σ : List (Option V)} {H H' : Hp} {s : Shared} {h' : Heap}

theorem Cx.Ok.nofr (ok : X.Ok) {b : Addr} {o : Obj} (e : X.base.get? b = some o) : b ∉ X.fs := fun hb => by
  have := (ok.funs.mem hb).1
  rw [e] at this; cases this
theorem Inv.bs (I : Inv X pins σ H s) : ∀ b o, X.base.get? b = some o → s.heap.get? b = some o ∧ H b = none := fun b o e =>
  ⟨I.base.keep b o (I.ok.bs b o e).1 (I.ok.bs b o e).2 (I.ok.nofr e) (I.ok.noex b o e), I.base.free b o (I.ok.bs b o e).1 (I.ok.bs b o e).2 (I.ok.noex b o e)⟩
theorem Inv.bk (I : Inv X pins σ H s) : ∀ b o, X.base.get? b = some o → s.heap.get? b = some o := fun b o e => (I.bs b o e).1
theorem Inv.mod (I : Inv X pins σ H s) : Mod X.K X.mg X.base := I.ok.mod
theorem Inv.kIn (I : Inv X pins σ H s) : X.K.In s.heap := I.ok.mod.kin.keeps I.bk
theorem Inv.nolimit (I : Inv X pins σ H s) : s.heap.NoLimit := I.ok.mod.nolimit.keeps I.bk
/-- the frame over the base: for OpenK's rules (K.In X.base is I.mod.kin) -/
theorem Inv.fr (I : Inv X pins σ H s) : ∃ m, Fr X.base X.env.locals s.heap m :=
  let ⟨m, hn, _⟩ := I.loc
  ⟨m, hn, I.bk, Nat.le_trans I.ok.bsz I.ok.above⟩
theorem Inv.lt (I : Inv X pins σ H s) : X.env.locals < s.heap.objs.size := let ⟨_, hn, _⟩ := I.loc; hn.lt
theorem Inv.sz (I : Inv X pins σ H s) : X.s₀.heap.objs.size ≤ s.heap.objs.size := Nat.le_trans I.ok.above (Nat.le_of_lt I.lt)
theorem Inv.nofs (I : Inv X pins σ H s) {a : Addr} (h : s.heap.objs.size ≤ a) : a ∉ X.fs := fun hb => by
  obtain ⟨_, o, ho, _⟩ := I.ok.funs.mem hb
  exact absurd (Nat.lt_of_lt_of_le (Heap.lt_size ho) (Nat.le_trans I.sz h)) (Nat.lt_irrefl _)
theorem Inv.cne (I : Inv X pins σ H s) : ∀ x c, X.env.cells.lookup x = some c → c ≠ X.env.locals := fun x c e z => by
  obtain ⟨v, o, ho, hd⟩ := I.cell x c e
  obtain ⟨m, ⟨o', es, ep, ho', hd', _⟩, _⟩ := I.loc
  rw [z, ho'] at ho; cases ho; rw [hd'] at hd; cases hd
theorem Inv.funs (I : Inv X pins σ H s) : s.heap.FunFrames X.base X.outer := by
  have all : ∀ (l : List Env), (∀ b ∈ frs l, b ∈ X.fs) → X.s₀.heap.FunFrames X.base l → s.heap.FunFrames X.base l := by
    intro l
    induction l with
    | nil => intro _ _; trivial
    | cons env r ih =>
      intro hs hl
      obtain ⟨hk, ⟨L, o, hf, hn, ho, hd⟩, hr⟩ := hl
      have hL : L ∈ X.fs := hs L (by unfold frs; rw [List.filterMap_cons, hf]; exact List.mem_cons_self)
      obtain ⟨sl, e⟩ := I.base.slot L o ho (I.ok.frf L hL) hL fun z => I.ok.exfs L z hL
      exact ⟨hk, ⟨L, _, hf, hn, e, hd⟩, ih (fun b hb => hs b (by unfold frs; rw [List.filterMap_cons, hf]; exact List.mem_cons_of_mem _ hb)) hr⟩
  exact all X.outer (fun _ hb => hb) I.ok.funs

/-- the frames that run, for a call -/
theorem Inv.stack (I : Inv X pins σ H s) : s.heap.FunFrames X.base X.stack := by
  rcases I.ok.stk with e | ⟨e, hf⟩
  · rw [e]; exact I.funs
  · rw [e]
    obtain ⟨m, hn, _⟩ := I.loc
    refine .cons (by rw [I.ok.kind]; decide) hf hn ?_ I.funs
    exact Heap.get?_none_of_le (Nat.le_trans I.ok.bsz I.ok.above)
theorem Inv.stkSub (I : Inv X pins σ H s) : ∀ b ∈ frs X.stack, b ∈ X.env.locals :: X.fs := fun b hb => by
  rcases I.ok.stk with e | ⟨e, hf⟩
  · rw [e] at hb; exact List.mem_cons_of_mem _ hb
  · rw [e] at hb
    unfold frs at hb
    rw [List.filterMap_cons, hf] at hb
    exact hb
theorem Inv.stkFree (I : Inv X pins σ H s) : ∀ b ∈ frs X.stack, H b = none := fun b hb => by
  rcases List.mem_cons.mp (I.stkSub b hb) with e | hb
  · rw [e]; exact I.free
  · obtain ⟨_, o, ho, _⟩ := I.ok.funs.mem hb
    exact I.base.free b o ho (I.ok.frf b hb) fun z => I.ok.exfs b z hb

/-- THE STEP: the untracked objects but the frame and the records at ch are kept (the callers' frames up to slots), the frame's map is kept, the new abstract heap is held -/
theorem Inv.step {g' : Array GenState} {t' : Nat} {d' : Drawn} {ch : List Addr} (I : Inv X pins σ H s)
    (hch : ∀ b ∈ ch, (b ∈ X.ex ∨ X.s₀.heap.objs.size ≤ b) ∧ b ≠ X.env.locals ∧ (∀ x c, X.env.cells.lookup x = some c → c ≠ b) ∧ ∀ p ∈ X.pn ++ pins, p.1 ≠ b)
    (keep : ∀ b o, b ≠ X.env.locals → b ∉ X.fs → b ∉ ch → s.heap.get? b = some o → H b = none → h'.get? b = some o)
    (slot : ∀ b o, b ≠ X.env.locals → b ∈ X.fs → b ∉ ch → s.heap.get? b = some o → H b = none → ∃ sl, h'.get? b = some { o with slots := sl }) (free : ∀ b o, b ∉ ch → s.heap.get? b = some o → H b = none → H' b = none)
    (there : ∀ b o, b ∉ ch → s.heap.get? b = some o → ∃ o', h'.get? b = some o')
    (tups : ∀ b xs, H b = some (.tup xs) → H' b = some (.tup xs)) (frzs : ∀ b o u, H b = some (.frz o u) → H' b = some (.frz o u)) (tbls : ∀ b ps, H b = some (.tbl ps) → ∃ more, H' b = some (.tbl (ps ++ more)))
    (ns : ∀ m, s.heap.Ns X.env.locals m → h'.Ns X.env.locals m) (hok : HOk X.prog X.w H' h') (hg : AllBare g') :
    Inv X pins σ H' { s with heap := h', gens := g', drawn := d', toks := t' } := by
  have neL : ∀ b o, X.s₀.heap.get? b = some o → b ≠ X.env.locals := fun b o e => Nat.ne_of_lt (Nat.lt_of_lt_of_le (Heap.lt_size e) I.ok.above)
  have neC : ∀ b o, X.s₀.heap.get? b = some o → b ∉ X.ex → b ∉ ch := fun b o e hx hb => by
    rcases (hch b hb).1 with z | z
    · exact hx z
    · exact absurd (Nat.lt_of_lt_of_le (Heap.lt_size e) z) (Nat.lt_irrefl _)
  have cellK : ∀ x c, X.env.cells.lookup x = some c → ∀ v, s.heap.IsCell c v → h'.IsCell c v := fun x c e v ⟨o, ho, hd⟩ => by
    have nch : c ∉ ch := fun z => (hch c z).2.2.1 x c e rfl
    by_cases hc : c ∈ X.fs
    · obtain ⟨sl, q⟩ := slot c o (I.cne x c e) hc nch ho (I.freeC x c e)
      exact ⟨_, q, hd⟩
    · exact ⟨o, keep c o (I.cne x c e) hc nch ho (I.freeC x c e), hd⟩
  refine ⟨I.ok, I.os, hg, ⟨fun b o e n hb hx => ?_, fun b o e n hb hx => ?_, fun b o e n hx => ?_, fun b o e hx => ?_, fun b xs e => tups b xs (I.base.tups b xs e), fun b o xs e => frzs b o xs (I.base.frzs b o xs e), fun b ps e => ?_⟩, ?_, fun x c e => ?_, ?_, fun x c e => ?_, fun p hp => ?_, hok, I.len⟩
  · exact keep b o (neL b o e) hb (neC b o e hx) (I.base.keep b o e n hb hx) (I.base.free b o e n hx)
  · obtain ⟨sl, e1⟩ := I.base.slot b o e n hb hx
    obtain ⟨sl', e2⟩ := slot b _ (neL b o e) hb (neC b o e hx) e1 (I.base.free b o e n hx)
    exact ⟨sl', e2⟩
  · obtain ⟨o', e1⟩ := I.base.there b o e hx
    exact free b o' (neC b o e hx) e1 (I.base.free b o e n hx)
  · obtain ⟨o', e1⟩ := I.base.there b o e hx
    exact there b o' (neC b o e hx) e1
  · obtain ⟨m1, e1⟩ := I.base.tbls b ps e
    obtain ⟨m2, e2⟩ := tbls b _ e1
    exact ⟨m1 ++ m2, by rw [e2, Array.append_assoc]⟩
  · obtain ⟨m, hn, hl⟩ := I.loc
    refine ⟨m, ns m hn, fun i x v e1 e2 e3 => ?_⟩
    obtain ⟨u, r, l⟩ := hl i x v e1 e2 e3
    refine ⟨u, r, ?_⟩
    rcases l with l | ⟨k, c, e, z⟩
    · exact .inl l
    · exact .inr ⟨k, c, e, cellK x c e _ z⟩
  · obtain ⟨v, z⟩ := I.cell x c e
    exact ⟨v, cellK x c e v z⟩
  · obtain ⟨m, ⟨o, _, _, ho, _⟩, _⟩ := I.loc
    exact free _ o (fun z => (hch _ z).2.1 rfl) ho I.free
  · obtain ⟨v, o, ho, hd⟩ := I.cell x c e
    exact free c o (fun z => (hch c z).2.2.1 x c e rfl) ho (I.freeC x c e)
  · obtain ⟨e, n, ne, nf, d⟩ := I.pin p hp
    have nch : p.1 ∉ ch := fun z => (hch p.1 z).2.2.2 p hp rfl
    exact ⟨keep p.1 p.2 ne nf nch e n, free p.1 p.2 nch e n, ne, nf, d⟩
/-- .. where the frame's own object is kept too -/
theorem Inv.un {t' : Nat} (I : Inv X pins σ H s) (u : Un X.fs [] H H' s.heap h') (hok : HOk X.prog X.w H' h') : Inv X pins σ H' { s with heap := h', toks := t' } := by
  obtain ⟨m, ⟨o, es, ep, ho, r⟩, _⟩ := id I.loc
  obtain ⟨sl, hL⟩ := u.any ho I.free (by simp)
  exact I.step (g' := s.gens) (d' := s.drawn) (ch := []) (fun _ z => nomatch z) (fun b o _ hb _ e n => u.keep b o e n hb (by simp)) (fun b o _ hb _ e n => u.slot b o e n hb (by simp)) (fun b o _ e n => u.free b o e n (by simp)) (fun b o _ e => u.there b o e (by simp)) u.tups u.frzs u.tbls (fun m' hm => by
    obtain ⟨o', es', ep', ho', r'⟩ := hm
    rw [ho] at ho'; cases ho'
    exact ⟨_, es', ep', hL, r'⟩) hok I.bare
/-- behind a call (or a comprehension's block): the slots of this frame may have changed too, the records at ch may have turned -/
theorem Inv.call {g' : Array GenState} {t' : Nat} {d' : Drawn} {ch : List Addr} (I : Inv X pins σ H s) (u : Un (frs X.stack) ch H H' s.heap h') (hok : HOk X.prog X.w H' h') (hg : AllBare g')
    (hch : ∀ b ∈ ch, (b ∈ X.ex ∨ X.s₀.heap.objs.size ≤ b) ∧ b ≠ X.env.locals ∧ (∀ x c, X.env.cells.lookup x = some c → c ≠ b) ∧ ∀ p ∈ X.pn ++ pins, p.1 ≠ b) :
    Inv X pins σ H' { s with heap := h', gens := g', drawn := d', toks := t' } := by
  obtain ⟨m, ⟨o, es, ep, ho, r⟩, _⟩ := id I.loc
  obtain ⟨sl, hL⟩ := u.any ho I.free fun z => (hch _ z).2.1 rfl
  exact I.step (ch := ch) hch (fun b o hL hb hc e n => u.keep b o e n (fun z => (List.mem_cons.mp (I.stkSub b z)).elim hL hb) hc) (fun b o _ _ hc e n => u.any e n hc) (fun b o hc e n => u.free b o e n hc) (fun b o hc e => u.there b o e hc) u.tups u.frzs u.tbls (fun m' hm => by
    obtain ⟨o', es', ep', ho', r'⟩ := hm
    rw [ho] at ho'; cases ho'
    exact ⟨_, es', ep', hL, r'⟩) hok hg
/-- an untracked record of ours (an iterator) has turned -/
theorem Inv.turned {t' : Nat} {it : Addr} (I : Inv X pins σ H s) (k : ∀ b o, b ≠ it → s.heap.get? b = some o → h'.get? b = some o) (hn : H it = none) (hL : it ≠ X.env.locals)
    (h1 : it ∈ X.ex ∨ X.s₀.heap.objs.size ≤ it) (h2 : ∀ x c, X.env.cells.lookup x = some c → c ≠ it) (h3 : ∀ p ∈ X.pn ++ pins, p.1 ≠ it) : Inv X pins σ H { s with heap := h', toks := t' } := by
  have nit : ∀ b u, H b = some u → b ≠ it := fun b u e z => by rw [z, hn] at e; cases e
  refine I.step (g' := s.gens) (d' := s.drawn) (ch := [it]) (fun b hb => ?_) (fun b o _ _ hc e _ => k b o (fun z => hc (by simp [z])) e) (fun b o _ _ hc e _ => ⟨o.slots, k b o (fun z => hc (by simp [z])) e⟩) (fun _ _ _ _ n => n)
    (fun b o hc e => ⟨o, k b o (fun z => hc (by simp [z])) e⟩) (fun _ _ e => e) (fun _ _ _ e => e) (fun b ps e => ⟨#[], by rw [e]; simp⟩) (fun m hm => ?_) (fun b u e => ?_) I.bare
  · have e : b = it := by simpa using hb
    subst e
    exact ⟨h1, hL, h2, h3⟩
  · obtain ⟨o, es, ep, ho, r⟩ := hm
    exact ⟨o, es, ep, k _ o (Ne.symm hL) ho, r⟩
  · refine (I.hok b u e).stay (fun c v hc q => k c v ?_ q) (fun _ q => q) fun _ _ q => q
    rcases hc with z | z
    · rw [z]; exact nit b u e
    · exact nit c _ z
theorem Inv.tok (I : Inv X pins σ H s) (t : Nat) : Inv X pins σ H { s with toks := t } := I.un (h' := s.heap) (t' := t) Un.refl I.hok
/-- all objects kept -/
theorem Inv.kept {t' : Nat} (I : Inv X pins σ H s) (k : ∀ b u, s.heap.get? b = some u → h'.get? b = some u) : Inv X pins σ H { s with heap := h', toks := t' } := I.un (Un.kept k) (I.hok.kept k)
/-- a new object laid and tracked -/
theorem Inv.laid {a : Addr} {o : HO} {t' : Nat} (I : Inv X pins σ H s) (k : ∀ b u, s.heap.get? b = some u → h'.get? b = some u) (hp : s.heap.objs.size ≤ a) (new : ObjOk X.prog X.w (upd H a o) h' a o) :
    Inv X pins σ (upd H a o) { s with heap := h', toks := t' } := I.un (Un.laid k hp (I.hok.fresh hp)) (I.hok.laid k hp new)
/-- an object written -/
theorem Inv.write {x e : Addr} {o : HO} {t' : Nat} (I : Inv X pins σ H s) (mu : Mut (H x)) (he : e = x ∨ H e = some (.own x)) (k : ∀ b u, b ≠ e → s.heap.get? b = some u → h'.get? b = some u) (heo : ∃ u, h'.get? e = some u)
    (new : ObjOk X.prog X.w (upd H x o) h' x o) : Inv X pins σ (upd H x o) { s with heap := h', toks := t' } := I.un (Un.write mu he k heo) (I.hok.write mu he k heo new)
/-- forgetting slots, pins -/
theorem Inv.weak {σ' : List (Option V)} (I : Inv X pins σ H s) (hl : σ'.length = σ.length) (w : ∀ (i : Nat) v, σ'[i]? = some (some v) → σ[i]? = some (some v)) : Inv X pins σ' H s :=
  ⟨I.ok, I.os, I.bare, I.base, let ⟨m, hn, hl'⟩ := I.loc; ⟨m, hn, fun i x v e1 e2 e3 => hl' i x v e1 (w i v e2) e3⟩, I.cell, I.free, I.freeC, I.pin, I.hok, hl.trans I.len⟩
theorem Inv.pins_of {pins' : List (Addr × Obj)} (I : Inv X pins σ H s) (h : ∀ p ∈ pins', s.heap.get? p.1 = some p.2 ∧ H p.1 = none ∧ p.1 ≠ X.env.locals ∧ p.1 ∉ X.fs ∧ ∀ v, p.2.data ≠ .cell v) : Inv X pins' σ H s :=
  ⟨I.ok, I.os, I.bare, I.base, I.loc, I.cell, I.free, I.freeC, fun p hp => (List.mem_append.mp hp).elim (fun z => I.pin p (List.mem_append_left _ z)) (h p), I.hok, I.len⟩

theorem nodup_ix {N : List Str} (hN : N.Nodup) {i j : Nat} {x : Str} (a : N[i]? = some x) (b : N[j]? = some x) : i = j := by
  obtain ⟨h1, e1⟩ := List.getElem?_eq_some_iff.mp a
  obtain ⟨h2, e2⟩ := List.getElem?_eq_some_iff.mp b
  exact (List.getElem_inj hN).mp (e1.trans e2.symm)

/-- a name is stored; what changed -/
theorem store_ok2 {M : Model} {A : Around} {E : Value → Shared → Prop} {i : Nat} {x : Str} {v : V} {u : Value} {Q : Unit → Shared → Prop} (I : Inv X pins σ H s) (hN : X.N.Nodup) (hi : X.N[i]? = some x) (hx : Loc X.env.scope x) (r : RelV v u)
    (h : ∀ s', Inv X pins (σ.set i (some v)) H s' → (∃ a, Heap.SameBut a s.heap s'.heap ∧ (a = X.env.locals ∨ X.env.cells.lookup x = some a)) → Q () s') (hf : X.fn x = true ∨ X.env.scope.names.lookup x = some .local := by first | exact .inl rfl | exact .inr rfl | assumption) : wpAny M A (storeName X.env x u) Q E s := by
  obtain ⟨m, hn, hl⟩ := id I.loc
  have hcls : (X.env.scope.kind == .class || (X.env.scope.kind == .module && X.env.locals != X.env.globals)) = false := by rw [I.ok.kind]; rfl
  have hiσ : i < σ.length := by rw [I.len]; exact (List.getElem?_eq_some_iff.mp hi).1
  have cne := I.cne
  have tracked : ∀ {a : Addr} {h' : Heap}, (∃ o, s.heap.get? a = some o ∧ H a = none) → Heap.SameBut a s.heap h' → HOk X.prog X.w H h' := fun {a h'} ha hs b ob e => by
    obtain ⟨_, _, hfree⟩ := ha
    refine (I.hok b ob e).stay (fun c w' hc q => (hs.2 c ?_).trans q) (fun _ q => q) fun _ _ q => q
    rintro rfl
    rcases hc with rfl | hc
    · rw [hfree] at e; cases e
    · rw [hfree] at hc; cases hc
  rcases hx with hk | hk
  · refine wpAny_storeName_local hk hn (fun h' hn' hs => ?_) hcls
    obtain ⟨oL, _, _, hoL, _⟩ := id hn
    refine h _ ⟨I.ok, I.os, I.bare, ⟨fun b o e n hb hx => ?_, fun b o e n hb hx => ?_, I.base.free, fun b o e hx => ?_, I.base.tups, I.base.frzs, I.base.tbls⟩, ⟨_, hn', fun j y v' e1 e2 e3 => ?_⟩, fun y c e => ?_, I.free, I.freeC, fun p hp => ?_, tracked ⟨oL, hoL, I.free⟩ hs, by simpa using I.len⟩ ⟨_, hs, .inl rfl⟩
    · exact (hs.2 b (Nat.ne_of_lt (Nat.lt_of_lt_of_le (Heap.lt_size e) I.ok.above))).trans (I.base.keep b o e n hb hx)
    · obtain ⟨sl, e1⟩ := I.base.slot b o e n hb hx
      exact ⟨sl, (hs.2 b (Nat.ne_of_lt (Nat.lt_of_lt_of_le (Heap.lt_size e) I.ok.above))).trans e1⟩
    · obtain ⟨o', e1⟩ := I.base.there b o e hx
      exact ⟨o', (hs.2 b (Nat.ne_of_lt (Nat.lt_of_lt_of_le (Heap.lt_size e) I.ok.above))).trans e1⟩
    · by_cases hj : j = i
      · subst hj
        rw [hi] at e1; cases e1
        rw [List.getElem?_set_self hiσ] at e2
        cases e2
        exact ⟨u, r, .inl ⟨hk, by simp⟩⟩
      · rw [List.getElem?_set_ne (Ne.symm hj)] at e2
        obtain ⟨u', r', q⟩ := hl j y v' e1 e2 e3
        refine ⟨u', r', ?_⟩
        rcases q with ⟨k, e⟩ | ⟨k, c, e, z⟩
        · refine .inl ⟨k, ?_⟩
          have : y ≠ x := fun e => hj (nodup_ix hN e1 (e ▸ hi))
          simp [this, e]
        · exact .inr ⟨k, c, e, z.sameBut hs (cne y c e)⟩
    · obtain ⟨w', z⟩ := I.cell y c e
      exact ⟨w', z.sameBut hs (cne y c e)⟩
    · obtain ⟨e, n, ne, nf, d⟩ := I.pin p hp
      exact ⟨(hs.2 p.1 ne).trans e, n, ne, nf, d⟩
  · have hfn : X.fn x = true := by
      rcases hf with z | z
      · exact z
      · rw [z] at hk; cases hk
    obtain ⟨c, hc⟩ := I.ok.has x (.inl hk)
    obtain ⟨w', z⟩ := I.cell x c hc
    refine wpAny_storeName_cell I.ok.kind hk hc z (fun h' hc' hs => ?_)
    obtain ⟨oc, hoc, hocd⟩ := id z
    refine h { s with heap := h' } ⟨I.ok, I.os, I.bare, ⟨fun b o e n hb hx => ?_, fun b o e n hb hx => ?_, I.base.free, fun b o e hx => ?_, I.base.tups, I.base.frzs, I.base.tbls⟩, ⟨m, hn.sameBut hs (Ne.symm (cne x c hc)), fun j y v' e1 e2 e3 => ?_⟩, fun y c' e => ?_, I.free, I.freeC, fun p hp => ?_, tracked ⟨oc, hoc, I.freeC x c hc⟩ hs, by simpa using I.len⟩ ⟨c, hs, .inr hc⟩
    · exact (hs.2 b (Nat.ne_of_lt (Nat.lt_of_lt_of_le (Heap.lt_size e) (I.ok.cab x c hfn hc)))).trans (I.base.keep b o e n hb hx)
    · obtain ⟨sl, e1⟩ := I.base.slot b o e n hb hx
      exact ⟨sl, (hs.2 b (Nat.ne_of_lt (Nat.lt_of_lt_of_le (Heap.lt_size e) (I.ok.cab x c hfn hc)))).trans e1⟩
    · obtain ⟨o', e1⟩ := I.base.there b o e hx
      exact ⟨o', (hs.2 b (Nat.ne_of_lt (Nat.lt_of_lt_of_le (Heap.lt_size e) (I.ok.cab x c hfn hc)))).trans e1⟩
    · by_cases hj : j = i
      · subst hj
        rw [hi] at e1; cases e1
        rw [List.getElem?_set_self hiσ] at e2
        cases e2
        exact ⟨u, r, .inr ⟨.inl hk, c, hc, hc'⟩⟩
      · rw [List.getElem?_set_ne (Ne.symm hj)] at e2
        obtain ⟨u', r', q⟩ := hl j y v' e1 e2 e3
        refine ⟨u', r', ?_⟩
        rcases q with q | ⟨k, c', e, z'⟩
        · exact .inl q
        · refine .inr ⟨k, c', e, z'.sameBut hs ?_⟩
          rintro rfl
          exact hj (nodup_ix hN e1 (I.ok.inj _ _ _ e hc ▸ hi))
    · by_cases hcc : c' = c
      · subst hcc; exact ⟨_, hc'⟩
      · obtain ⟨w2, z2⟩ := I.cell y c' e
        exact ⟨w2, z2.sameBut hs hcc⟩
    · obtain ⟨e, n, ne, nf, d⟩ := I.pin p hp
      refine ⟨(hs.2 p.1 ?_).trans e, n, ne, nf, d⟩
      intro q
      rw [q, hoc] at e
      have q' : oc = p.2 := Option.some.inj e
      exact d w' (by rw [← q']; exact hocd)
theorem store_ok {M : Model} {A : Around} {E : Value → Shared → Prop} {i : Nat} {x : Str} {v : V} {u : Value} {Q : Unit → Shared → Prop} (I : Inv X pins σ H s) (hN : X.N.Nodup) (hi : X.N[i]? = some x) (hx : Loc X.env.scope x) (r : RelV v u)
    (h : ∀ s', Inv X pins (σ.set i (some v)) H s' → Q () s') (hf : X.fn x = true ∨ X.env.scope.names.lookup x = some .local := by first | exact .inl rfl | exact .inr rfl | assumption) : wpAny M A (storeName X.env x u) Q E s :=
  store_ok2 I hN hi hx r (fun s' I' _ => h s' I') hf
/-- behind a call or a block, the state as it is -/
theorem Inv.call' {s' : Shared} {ch : List Addr} (I : Inv X pins σ H s) (ho : s'.os = s.os) (u : Un (frs X.stack) ch H H' s.heap s'.heap) (hok : HOk X.prog X.w H' s'.heap) (hg : AllBare s'.gens)
    (hch : ∀ b ∈ ch, (b ∈ X.ex ∨ X.s₀.heap.objs.size ≤ b) ∧ b ≠ X.env.locals ∧ (∀ x c, X.env.cells.lookup x = some c → c ≠ b) ∧ ∀ p ∈ X.pn ++ pins, p.1 ≠ b) : Inv X pins σ H' s' := by
  obtain ⟨h', g', d', t', o'⟩ := s'
  have e : o' = s.os := ho
  subst e
  exact I.call (g' := g') (t' := t') (d' := d') u hok hg hch
end

/-! ### the judgements -/
/-- an exception: its class, its own dict's address (where it has one), the abstract heap behind it -/
abbrev XK := Value → Option Addr → Hp → Prop
abbrev St := List (Option V)
abbrev VK := V → Hp → Prop
/-- an expression's reading; a test's; an argument list's -/
abbrev TE := St → Hp → VK → Prop
abbrev TT := St → Hp → (Bool → Hp → Prop) → Prop
abbrev TA := St → Hp → (List V → Hp → Prop) → Prop
/-- what is wanted behind a statement -/
structure Ends where
  nx : St → Hp → Prop
  rt : VK
  bk : St → Hp → Prop := fun _ _ => False
  ct : St → Hp → Prop := fun _ _ => False
abbrev TS := Ends → St → Hp → Prop

def EP (X : Cx) (pins : List (Addr × Obj)) (σ : St) (Q : VK) (u : Value) (s' : Shared) : Prop := ∃ v H', Inv X pins σ H' s' ∧ RelV v u ∧ Q v H'
def TP (X : Cx) (pins : List (Addr × Obj)) (σ : St) (Q : Bool → Hp → Prop) (b : Bool) (s' : Shared) : Prop := ∃ H', Inv X pins σ H' s' ∧ Q b H'
def AP (X : Cx) (pins : List (Addr × Obj)) (σ : St) (Q : List V → Hp → Prop) (us : List Value) (s' : Shared) : Prop := ∃ vs H', Inv X pins σ H' s' ∧ Vals vs us ∧ Q vs H'
def SP (X : Cx) (pins : List (Addr × Obj)) (D : Ends) (f : Flow) (s' : Shared) : Prop :=
  match f with
  | .next => ∃ σ' H', Inv X pins σ' H' s' ∧ D.nx σ' H'
  | .brk => ∃ σ' H', Inv X pins σ' H' s' ∧ D.bk σ' H'
  | .cont => ∃ σ' H', Inv X pins σ' H' s' ∧ D.ct σ' H'
  | .ret u => ∃ v σ' H', Inv X pins σ' H' s' ∧ RelV v u ∧ D.rt v H'

structure PE (X : Cx) (e : Expr) (t : TE) : Prop where
  mk ::
  go :
  ∀ (pins : List (Addr × Obj)) (s : Shared) (σ : St) (H : Hp) (Q : VK), Inv X pins σ H s → t σ H Q → wpAny (model X.prog X.w) X.A (eval e X.env) (EP X pins σ Q) X.xe s
instance {X : Cx} {e : Expr} {t : TE} : CoeFun (PE X e t) (fun _ =>
  ∀ (pins : List (Addr × Obj)) (s : Shared) (σ : St) (H : Hp) (Q : VK), Inv X pins σ H s → t σ H Q → wpAny (model X.prog X.w) X.A (eval e X.env) (EP X pins σ Q) X.xe s) := ⟨PE.go⟩
structure PT (X : Cx) (e : Expr) (t : TT) : Prop where
  mk ::
  go :
  ∀ (pins : List (Addr × Obj)) (s : Shared) (σ : St) (H : Hp) (Q : Bool → Hp → Prop), Inv X pins σ H s → t σ H Q → wpAny (model X.prog X.w) X.A (isTrue e X.env (eval e X.env)) (TP X pins σ Q) X.xe s
instance {X : Cx} {e : Expr} {t : TT} : CoeFun (PT X e t) (fun _ =>
  ∀ (pins : List (Addr × Obj)) (s : Shared) (σ : St) (H : Hp) (Q : Bool → Hp → Prop), Inv X pins σ H s → t σ H Q → wpAny (model X.prog X.w) X.A (isTrue e X.env (eval e X.env)) (TP X pins σ Q) X.xe s) := ⟨PT.go⟩
/-- a test whatever its 'whole' is (and, or) -/
structure PW (X : Cx) (e : Expr) (t : TT) : Prop where
  mk ::
  go :
  ∀ (whole : Sem Value) (pins : List (Addr × Obj)) (s : Shared) (σ : St) (H : Hp) (Q : Bool → Hp → Prop), Inv X pins σ H s → t σ H Q → wpAny (model X.prog X.w) X.A (isTrue e X.env whole) (TP X pins σ Q) X.xe s
instance {X : Cx} {e : Expr} {t : TT} : CoeFun (PW X e t) (fun _ =>
  ∀ (whole : Sem Value) (pins : List (Addr × Obj)) (s : Shared) (σ : St) (H : Hp) (Q : Bool → Hp → Prop), Inv X pins σ H s → t σ H Q → wpAny (model X.prog X.w) X.A (isTrue e X.env whole) (TP X pins σ Q) X.xe s) := ⟨PW.go⟩
theorem PW.pt {X : Cx} {e : Expr} {t : TT} (h : PW X e t) : PT X e t := .mk <| h _
/-- an argument list (no star), from the left -/
structure PA (X : Cx) (es : List Expr) (t : TA) : Prop where
  mk ::
  go :
  ∀ (pos : Pos) (pins : List (Addr × Obj)) (s : Shared) (σ : St) (H : Hp) (Q : List V → Hp → Prop), Inv X pins σ H s → t σ H Q → wpAny (model X.prog X.w) X.A (spliced (backTo pos (starEach es X.env))) (AP X pins σ Q) X.xe s
instance {X : Cx} {es : List Expr} {t : TA} : CoeFun (PA X es t) (fun _ =>
  ∀ (pos : Pos) (pins : List (Addr × Obj)) (s : Shared) (σ : St) (H : Hp) (Q : List V → Hp → Prop), Inv X pins σ H s → t σ H Q → wpAny (model X.prog X.w) X.A (spliced (backTo pos (starEach es X.env))) (AP X pins σ Q) X.xe s) := ⟨PA.go⟩
structure PS (X : Cx) (st : Stmt) (t : TS) : Prop where
  mk ::
  go :
  ∀ (pins : List (Addr × Obj)) (s : Shared) (σ : St) (H : Hp) (D : Ends), Inv X pins σ H s → t D σ H → wpAny (model X.prog X.w) X.A (exec st X.env) (SP X pins D) X.xe s
instance {X : Cx} {st : Stmt} {t : TS} : CoeFun (PS X st t) (fun _ =>
  ∀ (pins : List (Addr × Obj)) (s : Shared) (σ : St) (H : Hp) (D : Ends), Inv X pins σ H s → t D σ H → wpAny (model X.prog X.w) X.A (exec st X.env) (SP X pins D) X.xe s) := ⟨PS.go⟩
structure PSs (X : Cx) (st : List Stmt) (t : TS) : Prop where
  mk ::
  go :
  ∀ (pins : List (Addr × Obj)) (s : Shared) (σ : St) (H : Hp) (D : Ends), Inv X pins σ H s → t D σ H → wpAny (model X.prog X.w) X.A (execs st X.env) (SP X pins D) X.xe s
instance {X : Cx} {st : List Stmt} {t : TS} : CoeFun (PSs X st t) (fun _ =>
  ∀ (pins : List (Addr × Obj)) (s : Shared) (σ : St) (H : Hp) (D : Ends), Inv X pins σ H s → t D σ H → wpAny (model X.prog X.w) X.A (execs st X.env) (SP X pins D) X.xe s) := ⟨PSs.go⟩
/-- weaken the end -/
theorem thn {α : Type} {t : Sem α} {Q Q' : α → Shared → Prop} {M : Model} {A : Around} {E : Value → Shared → Prop} {s : Shared} (h : wpAny M A t Q E s) (hQ : ∀ a s, Q a s → Q' a s) : wpAny M A t Q' E s := wpAny_mono h hQ fun _ _ x => x
end L2

namespace L2
open PySem PySem.Spec PyProof.Rows
section
variable {X : Cx}

/-! ### names and constants -/
def tVar (i : Nat) : TE := fun σ H Q => ∃ v, σ[i]? = some (some v) ∧ Q v H
def tC (v : V) : TE := fun _ H Q => Q v H
theorem pe_var {i : Nat} {x : Str} {pos : Pos} (hN : X.N[i]? = some x) (hv : Vis X.env.scope x) (hd : (x == ("__debug__" : Str)) = false := by decide) (hcd : (x == ("__classdict__" : Str)) = false := by decide) : PE X (.Name x pos) (tVar i) := by
  refine .mk ?_
  intro pins s σ H Q I h
  obtain ⟨v, e, h⟩ := h
  obtain ⟨m, hn, hl⟩ := I.loc
  obtain ⟨u, r, l⟩ := hl i x v hN e hv
  have fin : EP X pins σ Q u s := ⟨v, H, I, r, h⟩
  rcases l with ⟨hk, hm⟩ | ⟨hk, c, hc, hcell⟩
  · exact wpAny_Name (wpAny_loadName_local I.ok.kind hk hn hm fin) hd
  · rcases hk with hk | hk
    · exact wpAny_Name (wpAny_loadName_cell I.ok.kind hk hc hcell fin) hd
    · exact wpAny_Name (wpAny_loadName_free I.ok.kind hk hc hcell fin hcd) hd
theorem pe_int {i j pos} : PE X (.Constant (.int i) j pos) (tC (.int i)) := .mk <| fun _ _ _ H _ I h => wpAny_Constant_int ⟨.int i, H, I.tok _, ⟨_, rfl⟩, h⟩
theorem pe_bl {b j pos} : PE X (.Constant (.bool b) j pos) (tC (.bl b)) := .mk <| fun _ _ _ H _ I h => Constant_bool ⟨.bl b, H, I, rfl, h⟩
theorem pe_non {j pos} : PE X (.Constant .none j pos) (tC .non) := .mk <| fun _ _ _ H _ I h => Constant_none ⟨.non, H, I, rfl, h⟩
theorem pe_str {x j pos} : PE X (.Constant (.str x) j pos) (tC (.str x)) := .mk <| fun _ _ _ H _ I h => Calls.Constant_str ⟨.str x, H, I.tok _, ⟨_, rfl⟩, h⟩

/-- a global name of the def -/
def Gl (X : Cx) (x : Str) : Prop := X.env.kindOf x = some .globalImplicit
theorem ld_glob {E : Value → Shared → Prop} {pins : List (Addr × Obj)} {s : Shared} {σ : St} {H : Hp} {x : Str} {u : Value} {pos : Pos} {Q : Value → Shared → Prop} (I : Inv X pins σ H s) (hg : Gl X x) (hm : X.mg x = some u) (h : Q u s)
    (hd : (x == ("__debug__" : Str)) = false := by decide) : wpAny (model X.prog X.w) X.A (eval (.Name x pos) X.env) Q E s :=
  Calls.Name_function_global I.ok.kind hg (Calls.loadGlobal_global (by rw [I.ok.glob]; exact I.mod.glob.keeps I.bk) hm h) hd
theorem ld_blt {E : Value → Shared → Prop} {pins : List (Addr × Obj)} {s : Shared} {σ : St} {H : Hp} {x : Str} {u : Value} {pos : Pos} {Q : Value → Shared → Prop} (I : Inv X pins σ H s) (hg : Gl X x) (hm : X.mg x = none) (hv : bootBuiltins x = some u) (h : Q u s)
    (hn : x ≠ "__name__" := by decide) (hd : (x == ("__debug__" : Str)) = false := by decide) : wpAny (model X.prog X.w) X.A (eval (.Name x pos) X.env) Q E s := by
  obtain ⟨mb, h1, h2⟩ := I.mod.blt
  exact Calls.Name_function_global I.ok.kind hg (Calls.loadGlobal_builtin (by rw [I.ok.glob]; exact I.mod.glob.keeps I.bk) hm (by rw [I.ok.blt]; exact h1.keeps I.bk) ((h2 x hn).trans hv) h) hd
/-- a module's constant, a class, a function, as a value -/
theorem pe_glob {x : Str} {v : V} {u : Value} {pos : Pos} (hg : Gl X x) (hm : X.mg x = some u) (r : RelV v u) (hd : (x == ("__debug__" : Str)) = false := by decide) : PE X (.Name x pos) (tC v) :=
  .mk <| fun _ _ _ H _ I h => ld_glob I hg hm ⟨v, H, I, r, h⟩ hd
theorem pe_bltn {x : Str} {v : V} {u : Value} {pos : Pos} (hg : Gl X x) (hm : X.mg x = none) (hv : bootBuiltins x = some u) (r : RelV v u) (hn : x ≠ "__name__" := by decide) (hd : (x == ("__debug__" : Str)) = false := by decide) : PE X (.Name x pos) (tC v) :=
  .mk <| fun _ _ _ H _ I h => ld_blt I hg hm hv ⟨v, H, I, r, h⟩ hn hd

/-! ### arithmetic -/
variable {a b : Expr} {ta tb : TE} {pos : Pos}
/-! ### comparisons -/
/-- a comparison as a value, as a test -/
def tB (t : TE) : TT := fun σ H Q => t σ H fun x H1 => ∃ c, x = .bl c ∧ Q c H1
/-- an expression whose value is a bool, as a test -/
theorem pt_val {e : Expr} {t : TE} (h : PE X e t) (he : ∀ whole, isTrue e X.env whole = (do let v ← whole; standAt e.pos; holding [v] (truthy v)) := by intro _; rfl) : PT X e (tB t) := by
  refine .mk ?_
  intro pins s σ H Q I hw
  refine isTrue_plain (thn (h pins s σ H _ I hw) fun v s1 ⟨x, H1, I1, r1, q1⟩ => ?_) (he _)
  obtain ⟨d, rfl, q⟩ := q1
  cases r1
  exact wpAny_truthy_bool ⟨H1, I1, q⟩

/-! ### and, or, not -/
variable {tA tB' : TT} {rest : List Expr}
def tAnd (t u : TT) : TT := fun σ H Q => t σ H fun c H1 => if c = true then u σ H1 Q else Q false H1
def tOr (t u : TT) : TT := fun σ H Q => t σ H fun c H1 => if c = true then Q true H1 else u σ H1 Q
def tNot (t : TT) : TT := fun σ H Q => t σ H fun c H1 => Q (!c) H1
theorem pw_or1 (ha : PT X a tA) : PW X (.BoolOp .Or [a] pos) tA := by
  refine .mk ?_
  intro wh pins s σ H Q I h
  refine isTrue_or (thn (ha pins s σ H Q I h) fun c s1 e => ?_)
  cases c with
  | false => exact isTrue_or_nil e
  | true => exact e
theorem pw_or (ha : PT X a tA) (hb : PW X (.BoolOp .Or (b :: rest) pos) tB') : PW X (.BoolOp .Or (a :: b :: rest) pos) (tOr tA tB') := by
  refine .mk ?_
  intro wh pins s σ H Q I h
  refine isTrue_or (thn (ha pins s σ H _ I h) fun c s1 ⟨H1, I1, q1⟩ => ?_)
  cases c with
  | true => exact ⟨H1, I1, q1⟩
  | false => exact hb wh pins s1 σ H1 Q I1 q1
theorem pt_not (ha : PT X a tA) : PT X (.UnaryOp .Not a pos) (tNot tA) := by
  refine .mk ?_
  intro pins s σ H Q I h
  exact isTrue_not (ha pins s σ H (fun c H1 => Q (!c) H1) I h)
/-- .. as values (bools) -/
def tAndV (ta tb : TE) : TE := fun σ H Q => ta σ H fun x H1 => ∃ c, x = .bl c ∧ if c = true then tb σ H1 Q else Q (.bl false) H1
def tOrV (ta tb : TE) : TE := fun σ H Q => ta σ H fun x H1 => ∃ c, x = .bl c ∧ if c = true then Q (.bl true) H1 else tb σ H1 Q
def tNotV (ta : TE) : TE := fun σ H Q => ta σ H fun x H1 => ∃ c, x = .bl c ∧ Q (.bl (!c)) H1
theorem pe_one {op} {t : TE} (h : PE X a t) : PE X (.BoolOp op [a] pos) t := .mk <| fun pins s σ H Q I hw => BoolOp_one (h pins s σ H Q I hw)
theorem pe_and (ha : PE X a ta) (hb : PE X (.BoolOp .And (b :: rest) pos) tb) : PE X (.BoolOp .And (a :: b :: rest) pos) (tAndV ta tb) := by
  refine .mk ?_
  intro pins s σ H Q I h
  refine BoolOp_and (thn (ha pins s σ H _ I h) fun v s1 ⟨x, H1, I1, r1, q1⟩ => ?_)
  obtain ⟨c, rfl, q1⟩ := q1
  cases r1
  refine wpAny_truthy_bool ?_
  cases c with
  | true => exact hb pins s1 σ H1 Q I1 q1
  | false => exact ⟨.bl false, H1, I1, rfl, q1⟩
/-- a if t else b -/
def tIf (t : TT) (ta tb : TE) : TE := fun σ H Q => t σ H fun c H1 => if c = true then ta σ H1 Q else tb σ H1 Q
theorem pe_ifExp {c : Expr} (hc : PT X c tA) (ha : PE X a ta) (hb : PE X b tb) : PE X (.IfExp c a b pos) (tIf tA ta tb) := by
  refine .mk ?_
  intro pins s σ H Q I h
  refine wpAny_IfExp (thn (hc pins s σ H _ I h) fun d s1 ⟨H1, I1, q1⟩ => ?_)
  cases d with
  | true => exact ha pins s1 σ H1 Q I1 q1
  | false => exact hb pins s1 σ H1 Q I1 q1
end
end L2

namespace L2
open PySem PySem.Spec PyProof.Rows

/-! ### a list, a tuple that is read: tracked, frozen, or an object of the module -/
def SqL (K : PySem.W.Frag) (H : Hp) (a : Addr) (xs : List V) : Prop :=
  Rd H a (.lst xs) ∨
    ∃ (o : Obj) (its : Array Value) (n : Nat), K.lookup a = some o ∧ o.cls = .type "list" ∧ o.dict = none ∧ o.data = .seq its n ∧ its.size ≤ sizeLine ∧ Vals xs its.toList
def SqT (K : PySem.W.Frag) (H : Hp) (a : Addr) (xs : List V) : Prop :=
  Rd H a (.tup xs) ∨
    ∃ (o : Obj) (its : Array Value) (n : Nat), K.lookup a = some o ∧ o.cls = .type "tuple" ∧ o.data = .seq its n ∧ its.size ≤ sizeLine ∧ Vals xs its.toList
def absV : Value → Option V
  | .none => some .non
  | .bool b => some (.bl b)
  | .int i _ => some (.int i)
  | .str x _ => some (.str x)
  | .bytes b _ => some (.byt b)
  | .float b _ => some (.flt b)
  | .ref a => some (.ref a)
  | .type n => some (.ty n)
  | _ => none
theorem RelV.abs {x : V} {u : Value} (r : RelV x u) : absV u = some x := by
  cases x with
  | non => cases r; rfl
  | bl _ => cases r; rfl
  | int _ => obtain ⟨t, rfl⟩ := r; rfl
  | str _ => obtain ⟨t, rfl⟩ := r; rfl
  | byt _ => obtain ⟨t, rfl⟩ := r; rfl
  | flt _ => obtain ⟨t, rfl⟩ := r; rfl
  | ref _ => cases r; rfl
  | ty _ => cases r; rfl
theorem RelV.inj {x y : V} {u : Value} (r : RelV x u) (q : RelV y u) : x = y := Option.some.inj (r.abs.symm.trans q.abs)
theorem Vals.inj : ∀ {xs ys : List V} {us : List Value}, Vals xs us → Vals ys us → xs = ys
  | _, _, _, .nil, .nil => rfl
  | _, _, _, .cons r t, .cons r' t' => by rw [r.inj r', Vals.inj t t']
section
variable {X : Cx} {pins : List (Addr × Obj)} {σ : St} {H : Hp} {s : Shared} {a : Addr} {xs ys : List V}
theorem SqL.of {K : PySem.W.Frag} (h : H a = some (.lst xs)) : SqL K H a xs := .inl (.inl h)
theorem SqT.of {K : PySem.W.Frag} (h : H a = some (.tup xs)) : SqT K H a xs := .inl (.inl h)
theorem Inv.list (I : Inv X pins σ H s) (h : SqL X.K H a xs) : ∃ its : List Value, Vals xs its ∧ PlainL s.heap a its.toArray ∧ xs.length ≤ sizeLine := by
  rcases h with h | ⟨o, its, n, hk, hc, hd, hs, hz, r⟩
  · obtain ⟨z, its, n, r, e⟩ := h.ok I.hok
    exact ⟨its, r, ⟨_, n, e, rfl, rfl, rfl⟩, z⟩
  · refine ⟨its.toList, r, ⟨o, n, I.kIn a o hk, hc, hd, by simpa using hs⟩, ?_⟩
    have e := r.length
    simp only [Array.length_toList] at e
    omega
theorem Inv.tuple (I : Inv X pins σ H s) (h : SqT X.K H a xs) : ∃ its : List Value, Vals xs its ∧ IsTup s.heap a its.toArray ∧ xs.length ≤ sizeLine := by
  rcases h with h | ⟨o, its, n, hk, hc, hs, hz, r⟩
  · obtain ⟨z, its, r, p⟩ := h.ok I.hok
    exact ⟨its, r, p, z⟩
  · refine ⟨its.toList, r, ⟨o, I.kIn a o hk, hc, n, by simpa using hs⟩, ?_⟩
    have e := r.length
    simp only [Array.length_toList] at e
    omega
theorem Inv.list_inj (I : Inv X pins σ H s) (h : SqL X.K H a xs) (h' : SqL X.K H a ys) : xs = ys := by
  obtain ⟨its, r, ⟨o, n, e, _, _, d⟩, _⟩ := I.list h
  obtain ⟨its', r', ⟨o', n', e', _, _, d'⟩, _⟩ := I.list h'
  rw [e] at e'; cases e'
  rw [d] at d'
  injection d' with d1 _
  have : its = its' := by simpa using congrArg Array.toList d1
  subst this
  exact r.inj r'
theorem Inv.tuple_inj (I : Inv X pins σ H s) (h : SqT X.K H a xs) (h' : SqT X.K H a ys) : xs = ys := by
  obtain ⟨its, r, ⟨o, e, _, n, d⟩, _⟩ := I.tuple h
  obtain ⟨its', r', ⟨o', e', _, n', d'⟩, _⟩ := I.tuple h'
  rw [e] at e'; cases e'
  rw [d] at d'
  injection d' with d1 _
  have : its = its' := by simpa using congrArg Array.toList d1
  subst this
  exact r.inj r'
end

/-! ### another wish about exceptions -/
abbrev Cx.wish (X : Cx) (E : Value → Shared → Prop) : Cx := { X with xe := E }
/-- no exception leaves -/
abbrev Cx.nox (X : Cx) : Cx := X.wish fun _ _ => False
theorem Cx.Ok.wish {X : Cx} (ok : X.Ok) (E : Value → Shared → Prop) : (X.wish E).Ok :=
  ⟨ok.mod, ok.kind, ok.glob, ok.blt, ok.above, ok.inj, ok.has, ok.cab, ok.hd, ok.frames, ok.stk, ok.exf, ok.bs, ok.bsz, ok.noex, ok.exfs, ok.funs, ok.frf⟩
theorem Cx.Ok.unwish {X : Cx} {E : Value → Shared → Prop} (ok : (X.wish E).Ok) : X.Ok :=
  ⟨ok.mod, ok.kind, ok.glob, ok.blt, ok.above, ok.inj, ok.has, ok.cab, ok.hd, ok.frames, ok.stk, ok.exf, ok.bs, ok.bsz, ok.noex, ok.exfs, ok.funs, ok.frf⟩
section
variable {X : Cx} {pins : List (Addr × Obj)} {σ : St} {H : Hp} {s : Shared} {E : Value → Shared → Prop}
theorem Inv.wish (I : Inv X pins σ H s) (E : Value → Shared → Prop) : Inv (X.wish E) pins σ H s := ⟨I.ok.wish E, I.os, I.bare, I.base, I.loc, I.cell, I.free, I.freeC, I.pin, I.hok, I.len⟩
theorem Inv.unwish (I : Inv (X.wish E) pins σ H s) : Inv X pins σ H s := ⟨I.ok.unwish, I.os, I.bare, I.base, I.loc, I.cell, I.free, I.freeC, I.pin, I.hok, I.len⟩
theorem SP.unwish {D : Ends} {f : Flow} {s' : Shared} (h : SP (X.wish E) pins D f s') : SP X pins D f s' := by
  cases f with
  | next => obtain ⟨σ', H', I, q⟩ := h; exact ⟨σ', H', I.unwish, q⟩
  | brk => obtain ⟨σ', H', I, q⟩ := h; exact ⟨σ', H', I.unwish, q⟩
  | cont => obtain ⟨σ', H', I, q⟩ := h; exact ⟨σ', H', I.unwish, q⟩
  | ret u => obtain ⟨v, σ', H', I, r, q⟩ := h; exact ⟨v, σ', H', I.unwish, r, q⟩
theorem PE.nox {e : Expr} {t : TE} (h : PE X.nox e t) : PE X e t := .mk <| fun pins s σ H Q I hw =>
  wpAny_mono (h pins s σ H Q (I.wish _) hw) (fun _ _ ⟨v, H', I', r, q⟩ => ⟨v, H', I'.unwish, r, q⟩) fun _ _ z => False.elim z
theorem PT.nox {e : Expr} {t : TT} (h : PT X.nox e t) : PT X e t := .mk <| fun pins s σ H Q I hw =>
  wpAny_mono (h pins s σ H Q (I.wish _) hw) (fun _ _ ⟨H', I', q⟩ => ⟨H', I'.unwish, q⟩) fun _ _ z => False.elim z
theorem PSs.nox {st : List Stmt} {t : TS} (h : PSs X.nox st t) : PSs X st t := .mk <| fun pins s σ H D I hw =>
  wpAny_mono (h pins s σ H D (I.wish _) hw) (fun _ _ q => q.unwish) fun _ _ z => False.elim z
end

/-! ### blocks and small statements -/
section
variable {X : Cx} {st : Stmt} {rest : List Stmt} {t u : TS} {e : Expr} {te : TE} {pos : Pos}
def tNext : TS := fun D σ H => D.nx σ H
def tSeq (t u : TS) : TS := fun D σ H => t { D with nx := u D } σ H
theorem pss_nil : PSs X [] tNext := .mk <| fun _ _ σ H _ I h => wpAny_execs_nil ⟨σ, H, I, h⟩
theorem pss_cons (h1 : PS X st t) (h2 : PSs X rest u) : PSs X (st :: rest) (tSeq t u) := by
  refine .mk ?_
  intro pins s σ H D I h
  refine wpAny_execs_cons (thn (h1 pins s σ H { D with nx := u D } I h) fun f s1 q => ?_)
  cases f with
  | next =>
    obtain ⟨σ', H', I', q⟩ := q
    exact h2 pins s1 σ' H' D I' q
  | ret v => exact q
  | brk => exact q
  | cont => exact q
theorem pss_one (h1 : PS X st t) : PSs X [st] t := by
  refine .mk ?_
  intro pins s σ H D I h
  refine wpAny_execs_cons (thn (h1 pins s σ H D I h) fun f s1 q => ?_)
  cases f with
  | next => exact wpAny_execs_nil q
  | ret v => exact q
  | brk => exact q
  | cont => exact q
/-- in a def's body nothing is shown -/
theorem Inv.quiet {pins : List (Addr × Obj)} {σ : St} {H : Hp} {s : Shared} (I : Inv X pins σ H s) : interactive X.env = false := by simp [interactive, I.ok.kind]
/-- an expression whose value is dropped -/
def tDrop (te : TE) : TS := fun D σ H => te σ H fun _ H1 => D.nx σ H1
theorem ps_expr (he : PE X e te) (hs : swapsWith e none pos.line X.env = pure false := by rfl) : PS X (.Expr e pos) (tDrop te) := by
  refine .mk ?_
  intro pins s σ H D I h
  exact wpAny_Expr_any (thn (he pins s σ H _ I h) fun v s1 ⟨x, H1, I1, r1, q1⟩ => ⟨σ, H1, I1, q1⟩) I.quiet hs
def tRet (te : TE) : TS := fun D σ H => te σ H D.rt
theorem ps_ret (he : PE X e te) : PS X (.Return (some e) pos) (tRet te) := by
  refine .mk ?_
  intro pins s σ H D I h
  exact wpAny_Return_some (thn (he pins s σ H _ I h) fun v s1 ⟨x, H1, I1, r1, q1⟩ => ⟨x, σ, H1, I1, r1, q1⟩)
def tRetN : TS := fun D _ H => D.rt .non H
def tIfS (c : TT) (t u : TS) : TS := fun D σ H => c σ H fun b H1 => if b = true then t D σ H1 else u D σ H1
theorem ps_if {c : Expr} {a b : List Stmt} {tc : TT} (hc : PT X c tc) (ha : PSs X a t) (hb : PSs X b u) : PS X (.If c a b pos) (tIfS tc t u) := by
  refine .mk ?_
  intro pins s σ H D I h
  refine wpAny_If (thn (hc pins s σ H _ I h) fun d s1 ⟨H1, I1, q1⟩ => ?_)
  cases d with
  | true => exact ha pins s1 σ H1 D I1 q1
  | false => exact hb pins s1 σ H1 D I1 q1
end

/-! ### targets -/
abbrev TG := V → St → Hp → (St → Hp → Prop) → Prop
abbrev TGs := List V → St → Hp → (St → Hp → Prop) → Prop
structure PG (X : Cx) (target : Expr) (t : TG) : Prop where
  mk ::
  go :
  ∀ (pins : List (Addr × Obj)) (s : Shared) (σ : St) (H : Hp) (v : V) (u : Value) (Q : St → Hp → Prop), Inv X pins σ H s → RelV v u → t v σ H Q →
    wpAny (model X.prog X.w) X.A (assign target X.env u) (fun _ s' => ∃ σ' H', Inv X pins σ' H' s' ∧ Q σ' H') X.xe s
instance {X : Cx} {target : Expr} {t : TG} : CoeFun (PG X target t) (fun _ =>
  ∀ (pins : List (Addr × Obj)) (s : Shared) (σ : St) (H : Hp) (v : V) (u : Value) (Q : St → Hp → Prop), Inv X pins σ H s → RelV v u → t v σ H Q →
    wpAny (model X.prog X.w) X.A (assign target X.env u) (fun _ s' => ∃ σ' H', Inv X pins σ' H' s' ∧ Q σ' H') X.xe s) := ⟨PG.go⟩
/-- several targets, one after another -/
structure PGs (X : Cx) (ts : List Expr) (t : TGs) : Prop where
  mk ::
  go :
  ∀ (pins : List (Addr × Obj)) (s : Shared) (σ : St) (H : Hp) (vs : List V) (us : List Value) (Q : St → Hp → Prop), Inv X pins σ H s → Vals vs us → t vs σ H Q →
    wpAny (model X.prog X.w) X.A (assignInOrder ((assignEach ts X.env).map (·.2)) us) (fun _ s' => ∃ σ' H', Inv X pins σ' H' s' ∧ Q σ' H') X.xe s
instance {X : Cx} {ts : List Expr} {t : TGs} : CoeFun (PGs X ts t) (fun _ =>
  ∀ (pins : List (Addr × Obj)) (s : Shared) (σ : St) (H : Hp) (vs : List V) (us : List Value) (Q : St → Hp → Prop), Inv X pins σ H s → Vals vs us → t vs σ H Q →
    wpAny (model X.prog X.w) X.A (assignInOrder ((assignEach ts X.env).map (·.2)) us) (fun _ s' => ∃ σ' H', Inv X pins σ' H' s' ∧ Q σ' H') X.xe s) := ⟨PGs.go⟩
/-- o[i] = v, by values -/
abbrev TSet := V → V → V → Hp → (Hp → Prop) → Prop
structure PSet (X : Cx) (t : TSet) : Prop where
  mk ::
  go :
  ∀ (pins : List (Addr × Obj)) (s : Shared) (σ : St) (H : Hp) (o i v : V) (ov iv u : Value) (Q : Hp → Prop), Inv X pins σ H s → RelV o ov → RelV i iv → RelV v u → t o i v H Q →
    wpAny (model X.prog X.w) X.A (setItem ov iv u) (fun _ s' => ∃ H', Inv X pins σ H' s' ∧ Q H') X.xe s
instance {X : Cx} {t : TSet} : CoeFun (PSet X t) (fun _ =>
  ∀ (pins : List (Addr × Obj)) (s : Shared) (σ : St) (H : Hp) (o i v : V) (ov iv u : Value) (Q : Hp → Prop), Inv X pins σ H s → RelV o ov → RelV i iv → RelV v u → t o i v H Q →
    wpAny (model X.prog X.w) X.A (setItem ov iv u) (fun _ s' => ∃ H', Inv X pins σ H' s' ∧ Q H') X.xe s) := ⟨PSet.go⟩
/-- a op= b, by values -/
abbrev TIp := V → V → Hp → VK → Prop
section
variable {X : Cx} {pos : Pos}
def gName (i : Nat) : TG := fun v σ H Q => Q (σ.set i (some v)) H
theorem pg_name {i : Nat} {x : Str} (hN : X.N.Nodup) (hi : X.N[i]? = some x) (hx : Loc X.env.scope x) (hf : X.fn x = true ∨ X.env.scope.names.lookup x = some .local := by first | exact .inl rfl | exact .inr rfl | assumption) : PG X (.Name x pos) (gName i) := by
  refine .mk ?_
  intro pins s σ H v u Q I r h
  exact wpAny_assign_Name (store_ok I hN hi hx r (fun s' I' => ⟨_, H, I', h⟩) hf)
def gNil : TGs := fun vs σ H Q => vs = [] ∧ Q σ H
def gCons (t : TG) (u : TGs) : TGs := fun vs σ H Q => ∃ v r, vs = v :: r ∧ t v σ H fun σ' H' => u r σ' H' Q
theorem pgs_nil : PGs X [] gNil := by
  refine .mk ?_
  intro pins s σ H vs us Q I r h
  obtain ⟨e, h⟩ := h
  subst e
  cases r
  exact assignInOrder_nil ⟨σ, H, I, h⟩
theorem pgs_cons {e : Expr} {es : List Expr} {t : TG} {u : TGs} (h1 : PG X e t) (h2 : PGs X es u)
    (hs : (assignEach (e :: es) X.env).map (·.2) = assign e X.env :: (assignEach es X.env).map (·.2) := by rfl) : PGs X (e :: es) (gCons t u) := by
  refine .mk ?_
  intro pins s σ H vs us Q I r h
  obtain ⟨v, vr, e1, h⟩ := h
  subst e1
  cases r with
  | cons r rr =>
    rw [hs]
    refine assignInOrder_cons (thn (h1 pins s σ H _ _ _ I r h) fun _ s1 ⟨σ1, H1, I1, q1⟩ => ?_)
    exact h2 pins s1 σ1 H1 _ _ Q I1 rr q1
/-- (a, b, ..) = a tuple of that length -/
def gTup (K : PySem.W.Frag) (n : Nat) (t : TGs) : TG := fun v σ H Q => ∃ a xs, v = .ref a ∧ SqT K H a xs ∧ xs.length = n ∧ t xs σ H Q
theorem pg_tup {es : List Expr} {k : Nat} {t : TGs} {n : Nat} (hc : X.calm = true) (h : PGs X es t)
    (hn : (assignEach es X.env).length = n := by rfl) (hst : (assignEach es X.env).findIdx? (·.1) = none := by rfl) : PG X (.Tuple es k pos) (gTup X.K n t) := by
  refine .mk ?_
  intro pins s σ H v u Q I r hw
  obtain ⟨a, xs, e1, hq, hl, hw⟩ := hw
  subst e1
  cases r
  obtain ⟨its, rv, ht, hz⟩ := I.tuple hq
  refine assign_Tuple_tuple (I.ok.hd hc) ht (by simp [hn, ← hl, rv.length]) hst fun h' hx => ?_
  have I1 : Inv X pins σ H { s with heap := h' } := I.kept (t' := s.toks) fun b o e => hx b o (Nat.ne_of_lt (Heap.lt_size e)) e
  exact h pins _ σ H xs _ Q I1 (by simpa using rv) hw
/-- o[i] = .. -/
def gSub (to ti : TE) (t : TSet) : TG := fun v σ H Q => to σ H fun o H1 => ti σ H1 fun i H2 => t o i v H2 fun H3 => Q σ H3
theorem pg_sub {o i : Expr} {to ti : TE} {t : TSet} (ho : PE X o to) (hi : PE X i ti) (hs : PSet X t)
    (ha : ∀ v, assign (.Subscript o i pos) X.env v = (do
      let ov ← holding [v] (eval o X.env)
      let iv ← holding [v, ov] (eval i X.env)
      standAt pos
      holding [v, ov, iv] (setItem ov iv v)
      release [v, ov, iv] []) := by intro _; rfl) : PG X (.Subscript o i pos) (gSub to ti t) := by
  refine .mk ?_
  intro pins s σ H v u Q I r h
  rw [ha]
  refine wpAny_bind (wpAny_holding (thn (ho pins s σ H _ I h) fun ov s1 ⟨x, H1, I1, r1, q1⟩ => ?_))
  refine wpAny_bind (wpAny_holding (thn (hi pins s1 σ H1 _ I1 q1) fun iv s2 ⟨y, H2, I2, r2, q2⟩ => ?_))
  refine wpAny_bind (wpAny_standAt (wpAny_bind (wpAny_holding (thn (hs pins s2 σ H2 x y v ov iv u _ I2 r1 r2 r q2) fun _ s3 ⟨H3, I3, q3⟩ => ?_))))
  exact wpAny_release ⟨σ, H3, I3, q3⟩
/-- target = value -/
def tAsg (te : TE) (g : TG) : TS := fun D σ H => te σ H fun x H1 => g x σ H1 D.nx
theorem ps_asg {tg e : Expr} {te : TE} {g : TG} (he : PE X e te) (hg : PG X tg g) (hs : swapsWithSole [tg] e pos.line X.env = pure false := by rfl) (hw : swappedStores [tg] e X.env = pure none := by rfl)
    (h1 : (assignEach [tg] X.env).map (·.2) = [assign tg X.env] := by rfl) : PS X (.Assign [tg] e pos) (tAsg te g) := by
  refine .mk ?_
  intro pins s σ H D I h
  refine wpAny_Assign_stores (thn (he pins s σ H _ I h) fun v s1 ⟨x, H1, I1, r1, q1⟩ => ?_) hs hw
  rw [h1]
  exact thn (hg pins s1 σ H1 x v _ I1 r1 q1) fun _ s2 q => q
/-- name = value -/
theorem ps_set {i : Nat} {x : Str} {e : Expr} {te : TE} {pos' : Pos} (hN : X.N.Nodup) (hi : X.N[i]? = some x) (hx : Loc X.env.scope x) (he : PE X e te) (hs : swapsWith e (some (.Name x pos')) pos.line X.env = pure false := by rfl) (hf : X.fn x = true ∨ X.env.scope.names.lookup x = some .local := by first | exact .inl rfl | exact .inr rfl | assumption) :
    PS X (.Assign [.Name x pos'] e pos) (tAsg te (gName i)) := by
  refine .mk ?_
  intro pins s σ H D I h
  refine wpAny_Assign_Name (thn (he pins s σ H _ I h) fun v s1 ⟨y, H1, I1, r1, q1⟩ => ?_) hs
  exact store_ok I1 hN hi hx r1 (fun s2 I2 => ⟨_, H1, I2, q1⟩) hf
/-- a, b = x, y with plain local names: stored from the right; the pair itself is not tracked (the opening rows as in PyProof/Rows/TupAssign.lean:23) -/
def tPar (i j : Nat) (ta : TA) : TS := fun D σ H => ta σ H fun vs H1 => ∃ v w, vs = [v, w] ∧ D.nx ((σ.set i (some v)).set j (some w)) H1
theorem ps_par {i j : Nat} {x y : Str} {a b : Expr} {ta : TA} {px py pt : Pos} {kt k2 pt2} (hc : X.calm = true) (hN : X.N.Nodup) (hi : X.N[i]? = some x) (hj : X.N[j]? = some y) (hij : i ≠ j)
    (hx : X.env.scope.names.lookup x = some .local) (hy : X.env.scope.names.lookup y = some .local) (ha : PA X [a, b] ta)
    (hw : swappedStores [.Tuple [.Name x px, .Name y py] kt pt] (.Tuple [a, b] k2 pt2) X.env = pure (some [x, y]))
    (hs : swapsWithSole [.Tuple [.Name x px, .Name y py] kt pt] (.Tuple [a, b] k2 pt2) pos.line X.env = pure false := by rfl) :
    PS X (.Assign [.Tuple [.Name x px, .Name y py] kt pt] (.Tuple [a, b] k2 pt2) pos) (tPar i j ta) := by
  refine .mk ?_
  intro pins s σ H D I h
  rw [exec_Assign_arm]
  refine wpAny_bind (wpAny_standAt ?_)
  rw [hs]
  refine wpAny_bind (wpAny_pure ?_)
  rw [if_neg (by decide)]
  refine wpAny_bind (Tuple_ (thn (ha _ pins s σ H _ I h) fun us s1 ⟨vs, H1, I1, r1, q1⟩ => ?_))
  obtain ⟨v, w, e1, q1⟩ := q1
  subst e1
  obtain ⟨u1, u2, rfl, rv, rw'⟩ : ∃ u1 u2, us = [u1, u2] ∧ RelV v u1 ∧ RelV w u2 := by
    cases r1 with
    | cons p q =>
      cases q with
      | cons p' q' =>
        cases q'
        exact ⟨_, _, rfl, p, p'⟩
  refine wpAny_newObj_type ?_ (by show 2 ≤ sizeLine; decide)
  have I2 : Inv X pins σ H1 { s1 with heap := s1.heap.push { cls := .type "tuple", data := .seq [u1, u2].toArray } } := I1.kept (t' := s1.toks) fun b o e => Heap.get?_push_of_some _ e
  rw [hw]
  refine wpAny_bind (wpAny_pure ?_)
  show wpAny (model X.prog X.w) X.A (do rule "assign.swapped-stores"; let items ← unpackItems (.ref s1.heap.objs.size) 2 none; assignInOrder [fun v => bindName X.env y v, fun v => bindName X.env x v] items.reverse; pure Flow.next) _ _ _
  refine wpAny_bind (wpAny_rule (wpAny_bind (unpackItems_tuple (items := #[u1, u2]) (I.ok.hd hc) (IsTup.new s1.heap _) fun h' hx' => ?_)))
  have I3 := I2.kept (h' := h') (t' := s1.toks) fun b o e => hx' b o (Nat.ne_of_lt (Heap.lt_size e)) e
  show wpAny _ _ (assignInOrder [fun v => bindName X.env y v, fun v => bindName X.env x v] [u2, u1] >>= fun _ => pure Flow.next) _ _ _
  refine wpAny_bind (assignInOrder_cons (wpAny_bindName (store_ok I3 hN hj (.inl hy) rw' (fun s2 I4 => ?_) (.inr hy))))
  refine assignInOrder_cons (wpAny_bindName (store_ok I4 hN hi (.inl hx) rv (fun s3 I5 => assignInOrder_nil (wpAny_pure ?_)) (.inr hx)))
  rw [List.set_comm _ _ (Ne.symm hij)] at I5
  exact ⟨_, H1, I5, q1⟩
/-- name op= e -/
def tAug (i : Nat) (te : TE) (ti : TIp) : TS := fun D σ H => ∃ x, σ[i]? = some (some x) ∧ te σ H fun y H1 => ti x y H1 fun z H2 => D.nx (σ.set i (some z)) H2
/-- o[i] op= e -/
def tAugS (to ti te : TE) (tget : V → V → Hp → VK → Prop) (tip : TIp) (tset : TSet) : TS := fun D σ H => to σ H fun o H1 => ti σ H1 fun i H2 => tget o i H2 fun x H3 => te σ H3 fun y H4 => tip x y H4 fun z H5 => tset o i z H5 fun H6 => D.nx σ H6
/-- ints -/
def ipI (f : Int → Int → Int) : TIp := fun x y H Q => ∃ i j, x = .int i ∧ y = .int j ∧ Q (.int (f i j)) H
end

/-! ### while -/
section
variable {X : Cx} {pos : Pos}
end

/-! ### what a loop or a comprehension walks -/
/-- at turn i: it yields x (the heap may grow), or it stops -/
structure It where
  go : Nat → Hp → Prop
  yld : Nat → Hp → V → Hp → Prop
  stop : Nat → Hp → Prop
/-- the iterator's own objects may turn: they are not the frame's, not pinned, younger than the entry (or a comprehension's own) -/
def FpOk (X : Cx) (pins : List (Addr × Obj)) (H : Hp) (b : Addr) : Prop :=
  H b = none ∧ b ≠ X.env.locals ∧ b ∉ X.fs ∧ (b ∈ X.ex ∨ X.s₀.heap.objs.size ≤ b) ∧ (∀ x c, X.env.cells.lookup x = some c → c ≠ b) ∧ ∀ p ∈ X.pn ++ pins, p.1 ≠ b
theorem Inv.fpOk {X : Cx} {pins : List (Addr × Obj)} {σ : St} {H H' : Hp} {s : Shared} {b : Addr} (I : Inv X pins σ H s) (hb : s.heap.objs.size ≤ b) (hn : H' b = none) : FpOk X pins H' b := by
  refine ⟨hn, Nat.ne_of_gt (Nat.lt_of_lt_of_le I.lt hb), I.nofs hb, .inr (Nat.le_trans I.sz hb), fun x c e z => ?_, fun p hp z => ?_⟩
  · obtain ⟨v, q⟩ := I.cell x c e
    exact absurd (Nat.lt_of_lt_of_le q.lt (by rw [z]; exact hb)) (Nat.lt_irrefl _)
  · exact absurd (Nat.lt_of_lt_of_le (Heap.lt_size (I.pin p hp).1) (by rw [z]; exact hb)) (Nat.lt_irrefl _)
structure Turn (P : Program) (w : World) (K : PySem.W.Frag) (tg : Expr) (J : It) (fp : List Addr) (it : Addr) (tn : Nat → Heap → Prop) : Prop where
  mem : it ∈ fp
  obj : ∀ i h, tn i h → ∀ b ∈ fp, ∃ o, h.get? b = some o ∧ ∀ v, o.data ≠ .cell v
  keep : ∀ i h h', tn i h → (∀ b ∈ fp, ∀ o, h.get? b = some o → h'.get? b = some o) → tn i h'
  item : ∀ (X : Cx), X.prog = P → X.w = w → X.K = K → X.calm = true → ∀ (i : Nat) (pins : List (Addr × Obj)) (s : Shared) (σ : St) (H : Hp) (E : Value → Shared → Prop), Inv X pins σ H s → (∀ b ∈ fp, FpOk X pins H b) → tn i s.heap → J.go i H →
    wpAny (model P w) X.A (pyNext (.ref it)) (fun r s1 => ∃ u, r = some u ∧
      wpAny (model P w) X.A (letOwnedTupleGo tg (.ref it) u) (fun _ s2 => ∃ x H', Inv X pins σ H' s2 ∧ RelV x u ∧ J.yld i H x H' ∧ tn (i + 1) s2.heap ∧ ∀ b ∈ fp, H' b = none) E s1) E s
  done : ∀ (X : Cx), X.prog = P → X.w = w → X.K = K → X.calm = true → ∀ (i : Nat) (pins : List (Addr × Obj)) (s : Shared) (σ : St) (H : Hp) (E : Value → Shared → Prop), Inv X pins σ H s → (∀ b ∈ fp, FpOk X pins H b) → tn i s.heap → J.stop i H →
    wpAny (model P w) X.A (pyNext (.ref it)) (fun r s1 => r = none ∧ Inv X pins σ H s1) E s
  self : ∀ (A : Around) (i : Nat) (s : Shared) (Q : Value → Shared → Prop) (E : Value → Shared → Prop), tn i s.heap → Q (.ref it) s → wpAny (model P w) A (pyIter (.ref it)) Q E s
abbrev TI := St → Hp → (It → Hp → Prop) → Prop
/-- an iterator has come -/
def PIE (X : Cx) (pins : List (Addr × Obj)) (σ : St) (tg : Expr) (R : It → Hp → Prop) (itv : Value) (s2 : Shared) : Prop :=
  ∃ (it : Addr) (fp : List Addr) (tn : Nat → Heap → Prop) (J : It) (H' : Hp), itv = .ref it ∧ Inv X pins σ H' s2 ∧ Turn X.prog X.w X.K tg J fp it tn ∧ tn 0 s2.heap ∧ (∀ b ∈ fp, FpOk X pins H' b) ∧ R J H'
structure PI (X : Cx) (tg iter : Expr) (wi : TI) : Prop where
  mk ::
  go :
  ∀ (pins : List (Addr × Obj)) (s : Shared) (σ : St) (H : Hp) (R : It → Hp → Prop), Inv X pins σ H s → wi σ H R →
    wpAny (model X.prog X.w) X.A (eval iter X.env) (fun v s1 => wpAny (model X.prog X.w) X.A (pyIter v) (PIE X pins σ tg R) X.xe s1) X.xe s
instance {X : Cx} {tg iter : Expr} {wi : TI} : CoeFun (PI X tg iter wi) (fun _ =>
  ∀ (pins : List (Addr × Obj)) (s : Shared) (σ : St) (H : Hp) (R : It → Hp → Prop), Inv X pins σ H s → wi σ H R →
    wpAny (model X.prog X.w) X.A (eval iter X.env) (fun v s1 => wpAny (model X.prog X.w) X.A (pyIter v) (PIE X pins σ tg R) X.xe s1) X.xe s) := ⟨PI.go⟩

/-- the step ahead of the store is nothing for an iterator that keeps no tuple -/
theorem go_of {M : Model} {A : Around} {E : Value → Shared → Prop} {s : Shared} {tg : Expr} {it : Addr} {u : Value} {o : Obj} {n : String} {vs : Array Value} {Q : Unit → Shared → Prop} (ho : s.heap.get? it = some o) (hc : o.cls = .type n) (hd : o.data = .fields vs)
    (hn : ["enumerate", "zip", "dict_itemiterator", "dict_reverseitemiterator", "odict_iterator", "itertools.zip_longest", "itertools.pairwise"].contains n = false) (hQ : Q () s) : wpAny M A (letOwnedTupleGo tg (.ref it) u) Q E s := by
  unfold letOwnedTupleGo
  cases tg <;> first
    | exact wpAny_pure hQ
    | (cases u <;> first
        | exact wpAny_pure hQ
        | (refine wpAny_bind (wpAny_load ho ?_)
           rw [hc, hd]
           show wpAny M A (if (["enumerate", "zip", "dict_itemiterator", "dict_reverseitemiterator", "odict_iterator", "itertools.zip_longest", "itertools.pairwise"].contains n && vs[0]? == some (rawInt _)) = true then _ else _) Q E s
           rw [if_neg (by intro h; rw [hn, Bool.false_and] at h; cases h)]
           exact wpAny_pure hQ))

/-- the list at a, as it stands at each turn (a loop may append to it) -/
def Itl (K : PySem.W.Frag) (a : Addr) : It :=
  ⟨fun i H => ∃ xs x, SqL K H a xs ∧ xs[i]? = some x, fun i H x H' => H' = H ∧ ∀ xs, SqL K H a xs → xs[i]? = some x, fun i H => ∃ xs, SqL K H a xs ∧ xs.length ≤ i⟩
def Itt (K : PySem.W.Frag) (a : Addr) : It :=
  ⟨fun i H => ∃ xs x, SqT K H a xs ∧ xs[i]? = some x, fun i H x H' => H' = H ∧ ∀ xs, SqT K H a xs → xs[i]? = some x, fun i H => ∃ xs, SqT K H a xs ∧ xs.length ≤ i⟩
/-- lo, lo + 1, .. (n of them) -/
def Itr (lo : Int) (n : Nat) : It := ⟨fun i _ => i < n, fun i H x H' => H' = H ∧ x = .int (lo + i), fun i _ => n ≤ i⟩
theorem turn_list {P : Program} {w : World} {K : PySem.W.Frag} {tg : Expr} (a it : Addr) : Turn P w K tg (Itl K a) [it] it (fun i h => h.IsListIter it a i) where
  mem := by simp
  obj := fun i h st b hb => by
    have e : b = it := by simpa using hb
    subst e
    obtain ⟨o, e, c, d⟩ := st
    exact ⟨o, e, fun v z => by rw [d] at z; cases z⟩
  keep := fun i h h' st k => st.at fun o e => k it (by simp) o e
  item := by
    intro X hP hw hK hc i pins s σ H E I hf st hg
    subst hP hw hK
    obtain ⟨xs, x, hq, hx⟩ := hg
    obtain ⟨its, rv, p, hz⟩ := I.list hq
    obtain ⟨u, hu, ru⟩ := rv.get hx
    obtain ⟨f0, f1, f2, f3, f4, f5⟩ := hf it (by simp)
    refine wpAny_pyNext_list_item st p.isList (x := u) (by simpa using hu) fun h' st' sb => ?_
    have I1 : Inv X pins σ H { s with heap := h' } := I.turned (t' := s.toks) (fun b o hb e => (sb.2 b hb).trans e) f0 f1 f3 f4 f5
    obtain ⟨o, e, c, d⟩ := id st'
    exact ⟨u, rfl, go_of (s := { s with heap := h' }) e c d (by decide) ⟨x, H, I1, ru, ⟨rfl, fun ys hy => by rw [I.list_inj hy hq]; exact hx⟩, st', fun b hb => (hf b hb).1⟩⟩
  done := by
    intro X hP hw hK hc i pins s σ H E I hf st hg
    subst hP hw hK
    obtain ⟨xs, hq, hx⟩ := hg
    obtain ⟨its, rv, p, hz⟩ := I.list hq
    obtain ⟨f0, f1, f2, f3, f4, f5⟩ := hf it (by simp)
    have hl := rv.length
    exact wpAny_pyNext_list_end (I.ok.hd hc) st p.isList (by simp; omega) fun h' eb => ⟨rfl, I.turned (t' := s.toks) (fun b o hb e => eb b o hb e) f0 f1 f3 f4 f5⟩
  self := fun _ _ _ _ _ st h => wpAny_pyIter_listiter st h
theorem turn_tuple {P : Program} {w : World} {K : PySem.W.Frag} {tg : Expr} (a it : Addr) : Turn P w K tg (Itt K a) [it] it (fun i h => h.IsTupleIter it a i) where
  mem := by simp
  obj := fun i h st b hb => by
    have e : b = it := by simpa using hb
    subst e
    obtain ⟨o, e, c, d⟩ := st
    exact ⟨o, e, fun v z => by rw [d] at z; cases z⟩
  keep := fun i h h' st k => st.at fun o e => k it (by simp) o e
  item := by
    intro X hP hw hK hc i pins s σ H E I hf st hg
    subst hP hw hK
    obtain ⟨xs, x, hq, hx⟩ := hg
    obtain ⟨its, rv, p, hz⟩ := I.tuple hq
    obtain ⟨u, hu, ru⟩ := rv.get hx
    obtain ⟨f0, f1, f2, f3, f4, f5⟩ := hf it (by simp)
    refine wpAny_pyNext_tuple_item st (show s.heap.IsTuple a its.toArray from p) (x := u) (by simpa using hu) fun h' st' sb => ?_
    have I1 : Inv X pins σ H { s with heap := h' } := I.turned (t' := s.toks) (fun b o hb e => (sb.2 b hb).trans e) f0 f1 f3 f4 f5
    obtain ⟨o, e, c, d⟩ := id st'
    exact ⟨u, rfl, go_of (s := { s with heap := h' }) e c d (by decide) ⟨x, H, I1, ru, ⟨rfl, fun ys hy => by rw [I.tuple_inj hy hq]; exact hx⟩, st', fun b hb => (hf b hb).1⟩⟩
  done := by
    intro X hP hw hK hc i pins s σ H E I hf st hg
    subst hP hw hK
    obtain ⟨xs, hq, hx⟩ := hg
    obtain ⟨its, rv, p, hz⟩ := I.tuple hq
    obtain ⟨f0, f1, f2, f3, f4, f5⟩ := hf it (by simp)
    have hl := rv.length
    exact wpAny_pyNext_tuple_end (I.ok.hd hc) st (show s.heap.IsTuple a its.toArray from p) (by simp; omega) fun h' eb => ⟨rfl, I.turned (t' := s.toks) (fun b o hb e => eb b o hb e) f0 f1 f3 f4 f5⟩
  self := fun _ _ _ _ _ st h => wpAny_pyIter_tupleiter st h
theorem turn_range {P : Program} {w : World} {K : PySem.W.Frag} {tg : Expr} (it : Addr) (lo : Int) (n : Nat) : Turn P w K tg (Itr lo n) [it] it (fun i h => IsRangeIter h it (lo + (i : Nat) * 1) ((n : Int) - (i : Nat)) 1) where
  mem := by simp
  obj := fun i h st b hb => by
    have e : b = it := by simpa using hb
    subst e
    exact ⟨_, st, fun v z => by
      have z' : Data.fields _ = Data.cell v := z
      cases z'⟩
  keep := fun i h h' st k => k it (by simp) _ st
  item := by
    intro X hP hw hK hc i pins s σ H E I hf st hg
    subst hP hw hK
    obtain ⟨f0, f1, f2, f3, f4, f5⟩ := hf it (by simp)
    have W := Walks.range (prog := X.prog) (w := X.w) (I.ok.hd hc) it lo 1 n
    refine W.item i s _ _ hg st fun v h' tk hv st' kk => ?_
    obtain ⟨t, rfl⟩ := hv
    have I1 : Inv X pins σ H { s with heap := h', toks := tk } := I.turned (fun b o hb e => kk b o (by simpa using hb) e) f0 f1 f3 f4 f5
    refine ⟨_, rfl, go_of (s := { s with heap := h', toks := tk }) (n := "range_iterator") st' rfl rfl (by decide) ⟨.int (lo + i), H, I1, ⟨t, ?_⟩, ⟨rfl, rfl⟩, st', fun b hb => (hf b hb).1⟩⟩
    rw [Int.mul_one]
  done := by
    intro X hP hw hK hc i pins s σ H E I hf st hg
    subst hP hw hK
    obtain ⟨f0, f1, f2, f3, f4, f5⟩ := hf it (by simp)
    exact wpAny_pyNext_range_end (I.ok.hd hc) st (by have : n ≤ i := hg; omega) fun h' eb => ⟨rfl, I.turned (t' := s.toks) (fun b o hb e => eb b o hb e) f0 f1 f3 f4 f5⟩
  self := fun _ _ _ _ _ st h => wpAny_pyIter_rangeiter st h
end L2

namespace L2
open PySem PySem.Spec PyProof.Rows
section
variable {X : Cx} {tg : Expr}
def iList (K : PySem.W.Frag) (tl : TE) : TI := fun σ H R => tl σ H fun x H1 => ∃ a, x = .ref a ∧ (∃ xs, SqL K H1 a xs) ∧ R (Itl K a) H1
def iTup (K : PySem.W.Frag) (tl : TE) : TI := fun σ H R => tl σ H fun x H1 => ∃ a, x = .ref a ∧ (∃ xs, SqT K H1 a xs) ∧ R (Itt K a) H1
theorem pi_list {l : Expr} {tl : TE} (hl : PE X l tl) : PI X tg l (iList X.K tl) := by
  refine .mk ?_
  intro pins s σ H R I h
  refine thn (hl pins s σ H _ I h) fun v s1 ⟨x, H1, I1, r1, q1⟩ => ?_
  obtain ⟨a, e, ⟨xs, hq⟩, q⟩ := q1
  subst e
  cases r1
  obtain ⟨its, rv, p, hz⟩ := I1.list hq
  refine wpAny_pyIter_list p.isList ?_
  refine ⟨s1.heap.objs.size, [s1.heap.objs.size], _, _, H1, rfl, I1.kept (t' := s1.toks) fun b o e => Heap.get?_push_of_some _ e, turn_list a _, ⟨_, Heap.get?_push_size _ rfl, rfl, rfl⟩, fun b hb => ?_, q⟩
  have e : b = s1.heap.objs.size := by simpa using hb
  subst e
  exact I1.fpOk (Nat.le_refl _) (I1.hok.fresh (Nat.le_refl _))
theorem pi_tup {l : Expr} {tl : TE} (hl : PE X l tl) : PI X tg l (iTup X.K tl) := by
  refine .mk ?_
  intro pins s σ H R I h
  refine thn (hl pins s σ H _ I h) fun v s1 ⟨x, H1, I1, r1, q1⟩ => ?_
  obtain ⟨a, e, ⟨xs, hq⟩, q⟩ := q1
  subst e
  cases r1
  obtain ⟨its, rv, p, hz⟩ := I1.tuple hq
  refine wpAny_pyIter_tuple (show s1.heap.IsTuple a its.toArray from p) ?_
  refine ⟨s1.heap.objs.size, [s1.heap.objs.size], _, _, H1, rfl, I1.kept (t' := s1.toks) fun b o e => Heap.get?_push_of_some _ e, turn_tuple a _, ⟨_, Heap.get?_push_size _ rfl, rfl, rfl⟩, fun b hb => ?_, q⟩
  have e : b = s1.heap.objs.size := by simpa using hb
  subst e
  exact I1.fpOk (Nat.le_refl _) (I1.hok.fresh (Nat.le_refl _))
/-- a range object just made, walked -/
theorem range_it {pins : List (Addr × Obj)} {σ : St} {H : Hp} {s : Shared} {R : It → Hp → Prop} {E : Value → Shared → Prop} {lo hi : Int} {t u v : Tok} {tk : Nat} (I : Inv X pins σ H s) (h1 : -(2 ^ 62) ≤ lo) (h2 : lo < 2 ^ 62) (h3 : -(2 ^ 62) ≤ hi) (h4 : hi < 2 ^ 62)
    (q : R (Itr lo (hi - lo).toNat) H) : wpAny (model X.prog X.w) X.A (pyIter (.ref s.heap.objs.size)) (PIE X pins σ tg R) E { s with heap := s.heap.push { cls := .type "range", data := .fields #[.int lo t, .int hi u, .int 1 v] }, toks := tk } := by
  refine wpAny_pyIter_range (IsRange.new ..) (small_one h1 h2 h3 h4) ?_
  have I1 : Inv X pins σ H { s with heap := s.heap.push { cls := .type "range", data := .fields #[.int lo t, .int hi u, .int 1 v] }, toks := tk } := I.kept fun b o e => Heap.get?_push_of_some _ e
  refine ⟨(s.heap.push { cls := .type "range", data := .fields #[.int lo t, .int hi u, .int 1 v] }).objs.size, [(s.heap.push { cls := .type "range", data := .fields #[.int lo t, .int hi u, .int 1 v] }).objs.size], _, _, H, rfl,
    I1.kept (t' := tk) fun b o e => Heap.get?_push_of_some _ e, turn_range _ lo (hi - lo).toNat, ?_, fun b hb => ?_, q⟩
  · have e1 : lo + ((0 : Nat) : Int) * 1 = lo := by simp
    have e2 : (((hi - lo).toNat : Nat) : Int) - ((0 : Nat) : Int) = Builtin.Range.rangeSize lo hi 1 := by rw [rangeSize_one]; split <;> omega
    show IsRangeIter _ _ (lo + ((0 : Nat) : Int) * 1) ((((hi - lo).toNat : Nat) : Int) - ((0 : Nat) : Int)) 1
    rw [e1, e2]
    exact Heap.get?_push_size _ rfl
  · have e : b = (s.heap.push { cls := .type "range", data := .fields #[.int lo t, .int hi u, .int 1 v] }).objs.size := by simpa using hb
    subst e
    exact I1.fpOk (Nat.le_refl _) (I1.hok.fresh (Nat.le_refl _))
def iRng1 (ta : TA) : TI := fun σ H R => ta σ H fun vs H1 => ∃ j : Int, vs = [.int j] ∧ -(2 ^ 62) ≤ j ∧ j < 2 ^ 62 ∧ R (Itr 0 j.toNat) H1
theorem pi_range1 {a : Expr} {ta : TA} {p pos : Pos} (hg : Gl X "range") (hm : X.mg "range" = none) (ha : PA X [a] ta) (hs : starEach [a] X.env = [(false, eval a X.env)] := by rfl) : PI X tg (.Call (.Name "range" p) [a] [] pos) (iRng1 ta) := by
  refine .mk ?_
  intro pins s σ H R I h
  refine Call_ (ld_blt I hg hm boot_range (PyProof.Rows.callWith_type1 (thn (ha pos pins s σ H _ I h) fun us s1 ⟨vs, H1, I1, r1, q1⟩ => ?_) hs rfl))
  obtain ⟨j, e, q1, q2, q⟩ := q1
  subst e
  cases r1 with
  | cons r rr =>
    cases rr
    obtain ⟨t, rfl⟩ := r
    exact call_range_1 (range_it I1 (by omega) (by omega) q1 q2 (by simpa using q))
/-! ### for -/
/-- W: the invariant by the turn and a measure; N: what the body is to reach -/
def tFor (wi : TI) (g : TG) (tb : TS) : TS := fun D σ H => wi σ H fun J H1 => ∃ W : Nat → Nat → St → Hp → Prop, (∃ m, W 0 m σ H1) ∧ ∀ i m σ H, W i m σ H →
  (J.stop i H ∧ D.nx σ H) ∨ (J.go i H ∧ ∃ N : St → Hp → Prop, (∀ σ' H', N σ' H' → ∃ m', m' < m ∧ W (i + 1) m' σ' H') ∧ ∀ x H', J.yld i H x H' → g x σ H' fun σ2 H2 => tb { D with nx := N, ct := N, bk := D.nx } σ2 H2)
/-- the records at fp as they stand -/
def pinsAt (fp : List Addr) (h : Heap) : List (Addr × Obj) := fp.filterMap fun b => (h.get? b).map fun o => (b, o)
theorem mem_pinsAt {fp : List Addr} {h : Heap} {b : Addr} {o : Obj} (hb : b ∈ fp) (e : h.get? b = some o) : (b, o) ∈ pinsAt fp h := List.mem_filterMap.mpr ⟨b, hb, by rw [e]; rfl⟩
theorem of_pinsAt {fp : List Addr} {h : Heap} {p : Addr × Obj} (hp : p ∈ pinsAt fp h) : p.1 ∈ fp ∧ h.get? p.1 = some p.2 := by
  obtain ⟨b, hb, e⟩ := List.mem_filterMap.mp hp
  cases q : h.get? b with
  | none => rw [q] at e; cases e
  | some o =>
    rw [q] at e
    have e' : (b, o) = p := Option.some.inj e
    subst e'
    exact ⟨hb, q⟩
theorem Inv.pinned {pins : List (Addr × Obj)} {σ : St} {H : Hp} {s : Shared} {fp : List Addr} (I : Inv X pins σ H s) (hf : ∀ b ∈ fp, FpOk X pins H b) (ho : ∀ b ∈ fp, ∃ o, s.heap.get? b = some o ∧ ∀ v, o.data ≠ .cell v) : Inv X (pins ++ pinsAt fp s.heap) σ H s :=
  I.pins_of fun p hp => (List.mem_append.mp hp).elim (fun z => I.pin p (List.mem_append_right _ z)) fun z => by
    obtain ⟨hb, e⟩ := of_pinsAt z
    obtain ⟨f0, f1, f2, _⟩ := hf p.1 hb
    obtain ⟨o, e', d⟩ := ho p.1 hb
    rw [e] at e'; cases e'
    exact ⟨e, f0, f1, f2, d⟩
theorem Inv.unpinned {pins pl : List (Addr × Obj)} {σ : St} {H : Hp} {s : Shared} (I : Inv X (pins ++ pl) σ H s) : Inv X pins σ H s := I.pins_of fun p hp => I.pin p (List.mem_append_right _ (List.mem_append_left _ hp))
theorem ps_for {iter : Expr} {body : List Stmt} {wi : TI} {g : TG} {tb : TS} {pos : Pos} (hp : PassesOwn (model X.prog X.w) X.A X.env X.xe) (hc : X.calm = true) (hi : PI X tg iter wi) (hg : PG X tg g) (hb : PSs X body tb)
    (hs : ∀ x, foldedSetIterable iter X.env x = pure x := by intro _; rfl) : PS X (.For tg iter body [] pos) (tFor wi g tb) := by
  refine .mk ?_
  intro pins s σ H D I h
  refine wpAny_For (thn (hi pins s σ H _ I h) fun v s1 h1 => thn h1 fun itv s2 h2 => ?_) hs
  obtain ⟨it, fp, tn, J, H2, e, I2, T, st2, f2, W, ⟨m0, w0⟩, turn⟩ := h2
  subst e
  -- what stays true of the iterator's objects through the loop
  have stat : ∀ {H' : Hp}, (∀ b ∈ fp, H' b = none) → ∀ b ∈ fp, FpOk X pins H' b := fun hn b hb => ⟨hn b hb, (f2 b hb).2⟩
  refine codeAny_forLoop_any (fun n s' => ∃ i σ' H', Inv X pins σ' H' s' ∧ tn i s'.heap ∧ (∀ b ∈ fp, H' b = none) ∧ W i n σ' H') ?_ m0 ⟨0, σ, H2, I2, st2, fun b hb => (f2 b hb).1, w0⟩
  rintro n s3 ⟨i, σ3, H3, I3, st3, fr3, w3⟩
  rcases turn i n σ3 H3 w3 with ⟨stop, qn⟩ | ⟨go, N, hN, step⟩
  · refine wpAny_passesOwn hp (thn (T.done X rfl rfl rfl hc i pins s3 σ3 H3 X.xe I3 (stat fr3) st3 stop) fun r s4 ⟨hr, I4⟩ => ?_)
    subst hr
    exact wpAny_execs_nil ⟨σ3, H3, I4, qn⟩
  · refine wpAny_passesOwn hp (thn (T.item X rfl rfl rfl hc i pins s3 σ3 H3 X.xe I3 (stat fr3) st3 go) fun r s4 ⟨u, hr, h4⟩ => ?_)
    subst hr
    refine wpAny_passesOwn hp (thn h4 fun _ s5 ⟨x, H5, I5, r5, y5, st5, fr5⟩ => ?_)
    have I5' := I5.pinned (stat fr5) (T.obj _ _ st5)
    refine wpAny_passesOwn hp (thn (hg _ s5 σ3 H5 x u _ I5' r5 (step x H5 y5)) fun _ s6 ⟨σ6, H6, I6, q6⟩ => ?_)
    refine wpAny_passesOwn hp (thn (hb _ s6 σ6 H6 _ I6 q6) fun f s7 q7 => ?_)
    have again : ∀ {σ7 : St} {H7 : Hp}, Inv X (pins ++ pinsAt fp s5.heap) σ7 H7 s7 → N σ7 H7 → ∃ m, m < n ∧ ∃ i σ' H', Inv X pins σ' H' s7 ∧ tn i s7.heap ∧ (∀ b ∈ fp, H' b = none) ∧ W i m σ' H' := fun {σ7 H7} I7 n7 => by
      obtain ⟨m', hm, w7⟩ := hN σ7 H7 n7
      refine ⟨m', hm, i + 1, σ7, H7, I7.unpinned, T.keep _ _ _ st5 fun b hb o e => (I7.pin (b, o) (List.mem_append_right _ (List.mem_append_right _ (mem_pinsAt hb e)))).1, fun b hb => ?_, w7⟩
      obtain ⟨o, e, d⟩ := T.obj _ _ st5 b hb
      exact (I7.pin (b, o) (List.mem_append_right _ (List.mem_append_right _ (mem_pinsAt hb e)))).2.1
    cases f with
    | next => obtain ⟨σ7, H7, I7, n7⟩ := q7; exact again I7 n7
    | cont => obtain ⟨σ7, H7, I7, n7⟩ := q7; exact again I7 n7
    | brk => obtain ⟨σ7, H7, I7, q7⟩ := q7; exact ⟨σ7, H7, I7.unpinned, q7⟩
    | ret v => obtain ⟨x7, σ7, H7, I7, r7, q7⟩ := q7; exact ⟨x7, σ7, H7, I7.unpinned, r7, q7⟩
end

/-! ### the forms one uses -/
/-- over a list that the body leaves as it is -/
theorem for_list {K : PySem.W.Frag} {a : Addr} {xs : List V} {g : TG} {tb : TS} {D : Ends} {σ : St} {H : Hp} (Pv : Nat → St → Hp → Prop) (h0 : Pv 0 σ H) (hl : ∀ i σ H, i ≤ xs.length → Pv i σ H → SqL K H a xs)
    (hs : ∀ i x σ H, xs[i]? = some x → Pv i σ H → g x σ H fun σ2 H2 => tb { D with nx := Pv (i + 1), ct := Pv (i + 1), bk := D.nx } σ2 H2) (hd : ∀ σ H, Pv xs.length σ H → D.nx σ H) :
    ∃ W : Nat → Nat → St → Hp → Prop, (∃ m, W 0 m σ H) ∧ ∀ i m σ H, W i m σ H →
      ((Itl K a).stop i H ∧ D.nx σ H) ∨ ((Itl K a).go i H ∧ ∃ N : St → Hp → Prop, (∀ σ' H', N σ' H' → ∃ m', m' < m ∧ W (i + 1) m' σ' H') ∧ ∀ x H', (Itl K a).yld i H x H' → g x σ H' fun σ2 H2 => tb { D with nx := N, ct := N, bk := D.nx } σ2 H2) := by
  refine ⟨fun i m σ H => m = xs.length - i ∧ i ≤ xs.length ∧ Pv i σ H, ⟨xs.length, by simp, Nat.zero_le _, h0⟩, ?_⟩
  rintro i m σ H ⟨rfl, hi, p⟩
  have q := hl i σ H hi p
  by_cases hlt : i < xs.length
  · refine .inr ⟨⟨xs, xs[i], q, by simp [hlt]⟩, Pv (i + 1), fun σ' H' p' => ⟨xs.length - (i + 1), by omega, rfl, hlt, p'⟩, fun x H' y => ?_⟩
    obtain ⟨e, y⟩ := y
    subst e
    exact hs i x σ _ (y xs q) p
  · have e : i = xs.length := by omega
    subst e
    exact .inl ⟨⟨xs, q, Nat.le_refl _⟩, hd σ H p⟩
theorem for_tup {K : PySem.W.Frag} {a : Addr} {xs : List V} {g : TG} {tb : TS} {D : Ends} {σ : St} {H : Hp} (Pv : Nat → St → Hp → Prop) (h0 : Pv 0 σ H) (hl : ∀ i σ H, i ≤ xs.length → Pv i σ H → SqT K H a xs)
    (hs : ∀ i x σ H, xs[i]? = some x → Pv i σ H → g x σ H fun σ2 H2 => tb { D with nx := Pv (i + 1), ct := Pv (i + 1), bk := D.nx } σ2 H2) (hd : ∀ σ H, Pv xs.length σ H → D.nx σ H) :
    ∃ W : Nat → Nat → St → Hp → Prop, (∃ m, W 0 m σ H) ∧ ∀ i m σ H, W i m σ H →
      ((Itt K a).stop i H ∧ D.nx σ H) ∨ ((Itt K a).go i H ∧ ∃ N : St → Hp → Prop, (∀ σ' H', N σ' H' → ∃ m', m' < m ∧ W (i + 1) m' σ' H') ∧ ∀ x H', (Itt K a).yld i H x H' → g x σ H' fun σ2 H2 => tb { D with nx := N, ct := N, bk := D.nx } σ2 H2) := by
  refine ⟨fun i m σ H => m = xs.length - i ∧ i ≤ xs.length ∧ Pv i σ H, ⟨xs.length, by simp, Nat.zero_le _, h0⟩, ?_⟩
  rintro i m σ H ⟨rfl, hi, p⟩
  have q := hl i σ H hi p
  by_cases hlt : i < xs.length
  · refine .inr ⟨⟨xs, xs[i], q, by simp [hlt]⟩, Pv (i + 1), fun σ' H' p' => ⟨xs.length - (i + 1), by omega, rfl, hlt, p'⟩, fun x H' y => ?_⟩
    obtain ⟨e, y⟩ := y
    subst e
    exact hs i x σ _ (y xs q) p
  · have e : i = xs.length := by omega
    subst e
    exact .inl ⟨⟨xs, q, Nat.le_refl _⟩, hd σ H p⟩
theorem for_range {lo : Int} {n : Nat} {g : TG} {tb : TS} {D : Ends} {σ : St} {H : Hp} (Pv : Nat → St → Hp → Prop) (h0 : Pv 0 σ H)
    (hs : ∀ i σ H, i < n → Pv i σ H → g (.int (lo + i)) σ H fun σ2 H2 => tb { D with nx := Pv (i + 1), ct := Pv (i + 1), bk := D.nx } σ2 H2) (hd : ∀ σ H, Pv n σ H → D.nx σ H) :
    ∃ W : Nat → Nat → St → Hp → Prop, (∃ m, W 0 m σ H) ∧ ∀ i m σ H, W i m σ H →
      ((Itr lo n).stop i H ∧ D.nx σ H) ∨ ((Itr lo n).go i H ∧ ∃ N : St → Hp → Prop, (∀ σ' H', N σ' H' → ∃ m', m' < m ∧ W (i + 1) m' σ' H') ∧ ∀ x H', (Itr lo n).yld i H x H' → g x σ H' fun σ2 H2 => tb { D with nx := N, ct := N, bk := D.nx } σ2 H2) := by
  refine ⟨fun i m σ H => m = n - i ∧ i ≤ n ∧ Pv i σ H, ⟨n, by simp, Nat.zero_le _, h0⟩, ?_⟩
  rintro i m σ H ⟨rfl, hi, p⟩
  by_cases hlt : i < n
  · refine .inr ⟨hlt, Pv (i + 1), fun σ' H' p' => ⟨n - (i + 1), by omega, rfl, hlt, p'⟩, fun x H' y => ?_⟩
    obtain ⟨e, y⟩ := y
    subst e y
    exact hs i σ _ hlt p
  · have e : i = n := by omega
    subst e
    exact .inl ⟨Nat.le_refl _, hd σ H p⟩
end L2

namespace L2
open PySem PySem.Spec PyProof.Rows

abbrev R2 := V → V → Hp → VK → Prop
/-- a two-place operation on values: f is binaryOp op, inplaceOp op or compareOp op -/
structure OpR (X : Cx) (f : Value → Value → Sem Value) (r : R2) : Prop where
  mk ::
  go :
  ∀ (pins : List (Addr × Obj)) (s : Shared) (σ : St) (H : Hp) (x y : V) (v u : Value) (Q : VK), Inv X pins σ H s → RelV x v → RelV y u → r x y H Q →
    wpAny (model X.prog X.w) X.A (f v u) (EP X pins σ Q) X.xe s
instance {X : Cx} {f : Value → Value → Sem Value} {r : R2} : CoeFun (OpR X f r) (fun _ =>
  ∀ (pins : List (Addr × Obj)) (s : Shared) (σ : St) (H : Hp) (x y : V) (v u : Value) (Q : VK), Inv X pins σ H s → RelV x v → RelV y u → r x y H Q →
    wpAny (model X.prog X.w) X.A (f v u) (EP X pins σ Q) X.xe s) := ⟨OpR.go⟩
/-- a one-place operation -/
structure UnR (X : Cx) (f : Value → Sem Value) (r : V → Hp → VK → Prop) : Prop where
  mk ::
  go :
  ∀ (pins : List (Addr × Obj)) (s : Shared) (σ : St) (H : Hp) (x : V) (v : Value) (Q : VK), Inv X pins σ H s → RelV x v → r x H Q →
    wpAny (model X.prog X.w) X.A (f v) (EP X pins σ Q) X.xe s
instance {X : Cx} {f : Value → Sem Value} {r : V → Hp → VK → Prop} : CoeFun (UnR X f r) (fun _ =>
  ∀ (pins : List (Addr × Obj)) (s : Shared) (σ : St) (H : Hp) (x : V) (v : Value) (Q : VK), Inv X pins σ H s → RelV x v → r x H Q →
    wpAny (model X.prog X.w) X.A (f v) (EP X pins σ Q) X.xe s) := ⟨UnR.go⟩
/-- a call of a value that is known (a builtin, a type) with values -/
structure CallR (X : Cx) (f : Value) (r : List V → Hp → VK → Prop) : Prop where
  mk ::
  go :
  ∀ (pins : List (Addr × Obj)) (s : Shared) (σ : St) (H : Hp) (xs : List V) (us : List Value) (Q : VK), Inv X pins σ H s → Vals xs us → r xs H Q →
    wpAny (model X.prog X.w) X.A (call f us) (EP X pins σ Q) X.xe s
instance {X : Cx} {f : Value} {r : List V → Hp → VK → Prop} : CoeFun (CallR X f r) (fun _ =>
  ∀ (pins : List (Addr × Obj)) (s : Shared) (σ : St) (H : Hp) (xs : List V) (us : List Value) (Q : VK), Inv X pins σ H s → Vals xs us → r xs H Q →
    wpAny (model X.prog X.w) X.A (call f us) (EP X pins σ Q) X.xe s) := ⟨CallR.go⟩
def tOp (r : R2) (ta tb : TE) : TE := fun σ H Q => ta σ H fun x H1 => tb σ H1 fun y H2 => r x y H2 Q
def tUn (r : V → Hp → VK → Prop) (ta : TE) : TE := fun σ H Q => ta σ H fun x H1 => r x H1 Q
/-- ints in, under C, and a value out -/
def rI (C : Int → Int → Prop) (g : Int → Int → V) : R2 := fun x y H Q => ∃ i j, x = .int i ∧ y = .int j ∧ C i j ∧ Q (g i j) H
def rI0 (g : Int → Int → V) : R2 := fun x y H Q => ∃ i j, x = .int i ∧ y = .int j ∧ Q (g i j) H
def rU (g : Int → V) : V → Hp → VK → Prop := fun x H Q => ∃ i, x = .int i ∧ Q (g i) H

section
variable {X : Cx} {a b c : Expr} {ta tb tc : TE} {pos : Pos}

theorem binT (ha : PE X a ta) (hb : PE X b tb) {pins : List (Addr × Obj)} {s : Shared} {σ : St} {H : Hp} {R : V → V → Hp → Prop} (I : Inv X pins σ H s)
    (h : ta σ H fun x H1 => tb σ H1 fun y H2 => R x y H2) {Q : Value → Shared → Prop} {f : Value → Value → Sem Value}
    (hf : ∀ v u s2 x y H2, Inv X pins σ H2 s2 → RelV x v → RelV y u → R x y H2 → wpAny (model X.prog X.w) X.A (f v u) Q X.xe s2) :
    wpAny (model X.prog X.w) X.A (eval a X.env) (fun v s₁ => wpAny (model X.prog X.w) X.A (eval b X.env) (fun u s₂ => wpAny (model X.prog X.w) X.A (f v u) Q X.xe s₂) X.xe s₁) X.xe s := by
  refine thn (ha pins s σ H _ I h) fun v s1 ⟨x, H1, I1, r1, q1⟩ => ?_
  refine thn (hb pins s1 σ H1 _ I1 q1) fun u s2 ⟨y, H2, I2, r2, q2⟩ => ?_
  exact hf v u s2 x y H2 I2 r1 r2 q2

theorem pe_op {op : Operator} {r : R2} (ho : OpR X (binaryOp op) r) (ha : PE X a ta) (hb : PE X b tb) : PE X (.BinOp a op b pos) (tOp r ta tb) := by
  refine .mk ?_
  intro pins s σ H Q I h
  exact wpAny_BinOp (binT ha hb I h fun v u s2 x y H2 I2 rx ry q => ho pins s2 σ H2 x y v u Q I2 rx ry q)
/-! ### ints -/
theorem opI {f : Value → Value → Sem Value} {C : Int → Int → Prop} {g : Int → Int → Int}
    (rule : ∀ (i j : Int) (t u : Tok) (s : Shared) (Q : Value → Shared → Prop) (E : Value → Shared → Prop), C i j → Q (.int (g i j) s.toks) { s with toks := s.toks + 1 } → wpAny (model X.prog X.w) X.A (f (.int i t) (.int j u)) Q E s) :
    OpR X f (rI C fun i j => .int (g i j)) := by
  refine .mk ?_
  intro pins s σ H x y v u Q I rx ry h
  obtain ⟨i, j, rfl, rfl, hc, q⟩ := h
  obtain ⟨t, rfl⟩ := rx
  obtain ⟨t', rfl⟩ := ry
  exact rule i j t t' s _ _ hc ⟨.int (g i j), H, I.tok _, ⟨_, rfl⟩, q⟩
theorem opI0 {f : Value → Value → Sem Value} {g : Int → Int → Int}
    (rule : ∀ (i j : Int) (t u : Tok) (s : Shared) (Q : Value → Shared → Prop) (E : Value → Shared → Prop), Q (.int (g i j) s.toks) { s with toks := s.toks + 1 } → wpAny (model X.prog X.w) X.A (f (.int i t) (.int j u)) Q E s) :
    OpR X f (rI0 fun i j => .int (g i j)) := by
  refine .mk ?_
  intro pins s σ H x y v u Q I rx ry h
  obtain ⟨i, j, rfl, rfl, q⟩ := h
  obtain ⟨t, rfl⟩ := rx
  obtain ⟨t', rfl⟩ := ry
  exact rule i j t t' s _ _ ⟨.int (g i j), H, I.tok _, ⟨_, rfl⟩, q⟩
theorem opB0 {f : Value → Value → Sem Value} {g : Int → Int → Bool}
    (rule : ∀ (i j : Int) (t u : Tok) (s : Shared) (Q : Value → Shared → Prop) (E : Value → Shared → Prop), Q (.bool (g i j)) s → wpAny (model X.prog X.w) X.A (f (.int i t) (.int j u)) Q E s) :
    OpR X f (rI0 fun i j => .bl (g i j)) := by
  refine .mk ?_
  intro pins s σ H x y v u Q I rx ry h
  obtain ⟨i, j, rfl, rfl, q⟩ := h
  obtain ⟨t, rfl⟩ := rx
  obtain ⟨t', rfl⟩ := ry
  exact rule i j t t' s _ _ ⟨.bl (g i j), H, I, rfl, q⟩

def CDiv (i j : Int) : Prop := 0 < j ∧ j < 1073741824
def CPow (i j : Int) : Prop := 0 ≤ j ∧ j ≤ 1000000 ∧ i.natAbs < 2 ^ 64
def CMul (i j : Int) : Prop := (-(2 ^ 64) < i ∧ i < 2 ^ 64) ∨ (-(2 ^ 64) < j ∧ j < 2 ^ 64)
theorem CMul.ok {i j : Int} (h : CMul i j) : IntMulOk i j := by
  rcases h with ⟨h1, h2⟩ | ⟨h1, h2⟩
  · exact .of_left (intBits_le_64 h1 h2)
  · exact .of_right (intBits_le_64 h1 h2)
theorem op_add : OpR X (binaryOp .Add) (rI0 fun i j => .int (i + j)) := opI0 fun _ _ _ _ _ _ _ q => add_int q
theorem op_sub : OpR X (binaryOp .Sub) (rI0 fun i j => .int (i - j)) := opI0 fun _ _ _ _ _ _ _ q => sub_int q
theorem op_mul : OpR X (binaryOp .Mult) (rI CMul fun i j => .int (i * j)) := opI fun _ _ _ _ _ _ _ hc q => mul_int q hc.ok
/-- // by a positive divisor -/
theorem op_fdiv : OpR X (binaryOp .FloorDiv) (rI CDiv fun i j => .int (i / j)) := opI fun i j _ _ _ _ _ hc q => by
  have h1 : (0 : Int) < j := hc.1
  have h2 : j < 1073741824 := hc.2
  exact floordiv_int (by omega) (by rw [Int.fdiv_eq_ediv_of_nonneg i (by omega)]; exact q) (.inl (PyProof.noPylong_small (by omega)))
/-- % by a positive divisor of any size -/
theorem op_mod : OpR X (binaryOp .Mod) (rI (fun _ j => 0 < j) fun i j => .int (i % j)) := opI fun i j _ _ _ _ _ hc q => by
  have h1 : (0 : Int) < j := hc
  exact mod_int' (by omega) (by rw [Int.fmod_eq_emod_of_nonneg i (by omega)]; exact q)
theorem op_pow : OpR X (binaryOp .Pow) (rI CPow fun i j => .int (i ^ j.toNat)) := opI fun _ _ _ _ _ _ _ hc q => pow_int_small hc.1 hc.2.1 hc.2.2 q
/-! ### bools among ints: n += (a < b) -/
end

/-! ### comparisons -/
/-- the scalars that == tells apart as data does -/
def scal : V → V → Bool
  | .non, .non => true | .non, .int _ => true | .int _, .non => true | .non, .bl _ => true | .bl _, .non => true | .non, .str _ => true | .str _, .non => true
  | .int _, .int _ => true | .bl _, .bl _ => true | .str _, .str _ => true | .byt _, .byt _ => true
  | .int _, .str _ => true | .str _, .int _ => true | .bl _, .str _ => true | .str _, .bl _ => true
  | _, _ => false
def rEq : R2 := fun x y H Q => scal x y = true ∧ Q (.bl (decide (x = y))) H
def rNe : R2 := fun x y H Q => scal x y = true ∧ Q (.bl (!decide (x = y))) H

theorem dec_int {i j : Int} : decide (V.int i = V.int j) = (i == j) := by
  rw [Bool.eq_iff_iff]
  simp
theorem dec_bl {i j : Bool} : decide (V.bl i = V.bl j) = (i == j) := by
  rw [Bool.eq_iff_iff]
  simp
theorem dec_str {i j : Str} : decide (V.str i = V.str j) = (i == j) := by
  rw [Bool.eq_iff_iff]
  simp
theorem dec_byt {i j : Array UInt8} : decide (V.byt i = V.byt j) = (i.toList == j.toList) := by
  rw [Bool.eq_iff_iff]
  cases i
  cases j
  simp

section
variable {X : Cx} {a b c : Expr} {ta tb tc : TE} {pos : Pos}
theorem fin_bl {pins : List (Addr × Obj)} {σ : St} {H : Hp} {s : Shared} {Q : VK} {k k' : Bool} (I : Inv X pins σ H s) (q : Q (.bl k) H) (e : k = k') : EP X pins σ Q (.bool k') s := by
  subst e
  exact ⟨.bl k, H, I, rfl, q⟩
theorem op_eq : OpR X (compareOp .Eq) rEq := by
  refine .mk ?_
  intro pins s σ H x y v u Q I rx ry h
  obtain ⟨hs, q⟩ := h
  cases x with
  | non =>
    cases rx
    cases y with
    | non => cases ry; exact PySem.EqNone.eq_none_none (fin_bl I q (by simp))
    | bl j => cases ry; exact PySem.EqNone.eq_none_bool (fin_bl I q (by simp))
    | int j => obtain ⟨t', rfl⟩ := ry; exact PySem.EqNone.eq_none_int (fin_bl I q (by simp))
    | str j => obtain ⟨t', rfl⟩ := ry; exact PySem.EqNone.eq_none_str (fin_bl I q (by simp))
    | _ => exact absurd (show false = true from hs) Bool.false_ne_true
  | bl i =>
    cases rx
    cases y with
    | non => cases ry; exact PySem.EqNone.eq_bool_none (fin_bl I q (by simp))
    | bl j => cases ry; exact eq_bool (fin_bl I q dec_bl)
    | str j => obtain ⟨t', rfl⟩ := ry; exact PySem.EqMixed.eq_bool_str (fin_bl I q (by simp))
    | _ => exact absurd (show false = true from hs) Bool.false_ne_true
  | int i =>
    obtain ⟨t, rfl⟩ := rx
    cases y with
    | non => cases ry; exact PySem.EqNone.eq_int_none (fin_bl I q (by simp))
    | int j => obtain ⟨t', rfl⟩ := ry; exact eq_int (fin_bl I q dec_int)
    | str j => obtain ⟨t', rfl⟩ := ry; exact PySem.EqMixed.eq_int_str (fin_bl I q (by simp))
    | _ => exact absurd (show false = true from hs) Bool.false_ne_true
  | str i =>
    obtain ⟨t, rfl⟩ := rx
    cases y with
    | non => cases ry; exact PySem.EqNone.eq_str_none (fin_bl I q (by simp))
    | bl j => cases ry; exact PySem.EqMixed.eq_str_bool (fin_bl I q (by simp))
    | int j => obtain ⟨t', rfl⟩ := ry; exact PySem.EqMixed.eq_str_int (fin_bl I q (by simp))
    | str j => obtain ⟨t', rfl⟩ := ry; exact eq_str (fin_bl I q dec_str)
    | _ => exact absurd (show false = true from hs) Bool.false_ne_true
  | byt i =>
    obtain ⟨t, rfl⟩ := rx
    cases y with
    | byt j => obtain ⟨t', rfl⟩ := ry; exact PySem.W.eq_bytes (fin_bl I q dec_byt)
    | _ => exact absurd (show false = true from hs) Bool.false_ne_true
  | _ => cases y <;> exact absurd (show false = true from hs) Bool.false_ne_true
theorem op_ne : OpR X (compareOp .NotEq) rNe := by
  refine .mk ?_
  intro pins s σ H x y v u Q I rx ry h
  obtain ⟨hs, q⟩ := h
  cases x with
  | non =>
    cases rx
    cases y with
    | non => cases ry; exact PySem.EqNone.ne_none_none (fin_bl I q (by simp))
    | bl j => cases ry; exact PySem.EqNone.ne_none_bool (fin_bl I q (by simp))
    | int j => obtain ⟨t', rfl⟩ := ry; exact PySem.EqNone.ne_none_int (fin_bl I q (by simp))
    | str j => obtain ⟨t', rfl⟩ := ry; exact PySem.EqNone.ne_none_str (fin_bl I q (by simp))
    | _ => exact absurd (show false = true from hs) Bool.false_ne_true
  | bl i =>
    cases rx
    cases y with
    | non => cases ry; exact PySem.EqNone.ne_bool_none (fin_bl I q (by simp))
    | bl j => cases ry; exact ne_bool (fin_bl I q (congrArg not dec_bl))
    | str j => obtain ⟨t', rfl⟩ := ry; exact PySem.EqMixed.ne_bool_str (fin_bl I q (by simp))
    | _ => exact absurd (show false = true from hs) Bool.false_ne_true
  | int i =>
    obtain ⟨t, rfl⟩ := rx
    cases y with
    | non => cases ry; exact PySem.EqNone.ne_int_none (fin_bl I q (by simp))
    | int j => obtain ⟨t', rfl⟩ := ry; exact ne_int (fin_bl I q (congrArg not dec_int))
    | str j => obtain ⟨t', rfl⟩ := ry; exact PySem.EqMixed.ne_int_str (fin_bl I q (by simp))
    | _ => exact absurd (show false = true from hs) Bool.false_ne_true
  | str i =>
    obtain ⟨t, rfl⟩ := rx
    cases y with
    | non => cases ry; exact PySem.EqNone.ne_str_none (fin_bl I q (by simp))
    | bl j => cases ry; exact PySem.EqMixed.ne_str_bool (fin_bl I q (by simp))
    | int j => obtain ⟨t', rfl⟩ := ry; exact PySem.EqMixed.ne_str_int (fin_bl I q (by simp))
    | str j => obtain ⟨t', rfl⟩ := ry; exact ne_str (fin_bl I q (congrArg not dec_str))
    | _ => exact absurd (show false = true from hs) Bool.false_ne_true
  | byt i =>
    obtain ⟨t, rfl⟩ := rx
    cases y with
    | byt j => obtain ⟨t', rfl⟩ := ry; exact PySem.W.ne_bytes (fin_bl I q (congrArg not dec_byt))
    | _ => exact absurd (show false = true from hs) Bool.false_ne_true
  | _ => cases y <;> exact absurd (show false = true from hs) Bool.false_ne_true

theorem op_lt : OpR X (compareOp .Lt) (rI0 fun i j => .bl (decide (i < j))) := opB0 fun _ _ _ _ _ _ _ q => lt_int q
theorem op_gt : OpR X (compareOp .Gt) (rI0 fun i j => .bl (decide (j < i))) := opB0 fun _ _ _ _ _ _ _ q => gt_int q
theorem op_ge : OpR X (compareOp .GtE) (rI0 fun i j => .bl (decide (j ≤ i))) := opB0 fun _ _ _ _ _ _ _ q => ge_int q
/-- is None, is not None: the right side a value none -/
theorem op_isN : OpR X (compareOp .Is) (fun x y H Q => y = .non ∧ Q (.bl (decide (x = .non))) H) := by
  refine .mk ?_
  intro pins s σ H x y v u Q I rx ry h
  obtain ⟨rfl, q⟩ := h
  cases ry
  refine is_none_gen (fin_bl I q ?_)
  cases x <;> first
    | (cases rx; rfl)
    | (obtain ⟨t, rfl⟩ := rx; rfl)
theorem op_notN : OpR X (compareOp .IsNot) (fun x y H Q => y = .non ∧ Q (.bl (!decide (x = .non))) H) := by
  refine .mk ?_
  intro pins s σ H x y v u Q I rx ry h
  obtain ⟨rfl, q⟩ := h
  cases ry
  refine isnot_none_gen (fin_bl I q ?_)
  cases x <;> first
    | (cases rx; rfl)
    | (obtain ⟨t, rfl⟩ := rx; rfl)

/-- two rules for one operation: by cases -/
theorem OpR.or {f : Value → Value → Sem Value} {r r' : R2} (h : OpR X f r) (h' : OpR X f r') : OpR X f (fun x y H Q => r x y H Q ∨ r' x y H Q) := by
  refine .mk ?_
  intro pins s σ H x y v u Q I rx ry q
  rcases q with q | q
  · exact h pins s σ H x y v u Q I rx ry q
  · exact h' pins s σ H x y v u Q I rx ry q

theorem nomark (b : Expr) {op : CmpOp} (h : op ≠ .In := by decide) (h2 : op ≠ .NotIn := by decide) : behindInMarks op b = false := by
  have e1 : (op == CmpOp.In) = false := by cases op <;> first | rfl | exact absurd rfl h
  have e2 : (op == CmpOp.NotIn) = false := by cases op <;> first | rfl | exact absurd rfl h2
  cases b <;> simp [behindInMarks, e1, e2]
/-- a comparison as a value; hm: nomark b, or (for in, not in) by with_unfolding_all rfl -/
theorem pe_cmpR {op : CmpOp} {r : R2} (ho : OpR X (compareOp op) r) (ha : PE X a ta) (hb : PE X b tb) (hm : behindInMarks op b = false) : PE X (.Compare a [op] [b] pos) (tOp r ta tb) := by
  refine .mk ?_
  intro pins s σ H Q I h
  exact wpAny_Compare1 (binT ha hb I h fun v u s2 x y H2 I2 rx ry q => ho pins s2 σ H2 x y v u Q I2 rx ry q) hm
/-- a reading of a value as a test -/
def tTest (t : TE) : TT := fun σ H Q => t σ H fun x H' => ∃ k, x = .bl k ∧ Q k H'
theorem pt_cmpR {op : CmpOp} {r : R2} (ho : OpR X (compareOp op) r) (ha : PE X a ta) (hb : PE X b tb) (hm : behindInMarks op b = false) : PT X (.Compare a [op] [b] pos) (tTest (tOp r ta tb)) := by
  refine .mk ?_
  intro pins s σ H Q I h
  refine wpAny_isTrue_Compare1 (thn (ha pins s σ H _ I h) fun v s1 ⟨x, H1, I1, r1, q1⟩ => thn (hb pins s1 σ H1 _ I1 q1) fun u s2 ⟨y, H2, I2, r2, q2⟩ =>
    thn (ho pins s2 σ H2 x y v u _ I2 r1 r2 q2) fun c s3 ⟨z, H3, I3, r3, k, e, q3⟩ => ?_) hm
  subst e
  cases r3
  exact wpAny_truthy_bool ⟨H3, I3, q3⟩
/-- a op1 b op2 c -/
def tChain (r r' : R2) (ta tb tc : TE) : TE := fun σ H Q => ta σ H fun x H1 => tb σ H1 fun y H2 => r x y H2 fun z H3 => ∃ k, z = .bl k ∧
  (if k = true then tc σ H3 fun w' H4 => r' y w' H4 Q else Q (.bl false) H3)
/-! ### truth -/
/-- a value's truth by the abstract heap -/
def TruV (K : PySem.W.Frag) (x : V) (H : Hp) (k : Bool) : Prop :=
  match x with
  | .non => k = false
  | .bl b => k = b
  | .int i => k = (i != 0)
  | .str y => y.length ≤ sizeLine ∧ k = ((y.length : Int) != 0)
  | .byt y => y.size ≤ sizeLine ∧ k = ((y.size : Int) != 0)
  | .ref p => (∃ xs, SqL K H p xs ∧ k = !xs.isEmpty) ∨ (∃ xs, SqT K H p xs ∧ k = !xs.isEmpty) ∨ ∃ kvs, H p = some (.dK kvs) ∧ k = !kvs.isEmpty
  | _ => False
theorem line63 : (sizeLine : Nat) < 2 ^ 63 := by rw [sizeLine_eq]; decide
/-! ### strs and bytes -/
theorem op_add_str : OpR X (binaryOp .Add) (fun x y H Q => ∃ i j, x = .str i ∧ y = .str j ∧ i.length + j.length ≤ sizeLine ∧ Q (.str (i ++ j)) H) := by
  refine .mk ?_
  intro pins s σ H x y v u Q I rx ry h
  obtain ⟨i, j, rfl, rfl, hz, q⟩ := h
  obtain ⟨t, rfl⟩ := rx
  obtain ⟨t', rfl⟩ := ry
  exact add_str (fun t' tk => ⟨.str (i ++ j), H, I.tok _, ⟨_, rfl⟩, q⟩) hz
/-! ### scalar builtins, by CallR -/
theorem vals1 {x : V} {us : List Value} (r : Vals [x] us) : ∃ u, us = [u] ∧ RelV x u := by
  cases r with
  | cons r1 r2 => cases r2; exact ⟨_, rfl, r1⟩
theorem vals2 {x y : V} {us : List Value} (r : Vals [x, y] us) : ∃ u w', us = [u, w'] ∧ RelV x u ∧ RelV y w' := by
  cases r with
  | cons r1 r2 =>
    cases r2 with
    | cons r3 r4 => cases r4; exact ⟨_, _, rfl, r1, r3⟩
theorem call_abs : CallR X (.builtin "abs") (fun xs H Q => ∃ i, xs = [.int i] ∧ Q (.int (if i < 0 then -i else i)) H) := by
  refine .mk ?_
  intro pins s σ H xs us Q I r h
  obtain ⟨i, rfl, q⟩ := h
  obtain ⟨u, rfl, t, rfl⟩ := vals1 r
  exact call_abs_int fun u tk => ⟨.int (if i < 0 then -i else i), H, I.tok _, ⟨_, rfl⟩, q⟩
theorem call_max2 (hc : X.calm = true) : CallR X (.builtin "max") (fun xs H Q => ∃ i j, xs = [.int i, .int j] ∧ Q (.int (if j > i then j else i)) H) := by
  refine .mk ?_
  intro pins s σ H xs us Q I r h
  obtain ⟨i, j, rfl, q⟩ := h
  obtain ⟨u, w', rfl, ⟨t, rfl⟩, ⟨t', rfl⟩⟩ := vals2 r
  refine max_two_ints (I.ok.hd hc) fun h' tk k => ⟨_, H, I.kept k, ?_, q⟩
  by_cases hj : j > i
  · rw [if_pos hj, if_pos hj]; exact ⟨_, rfl⟩
  · rw [if_neg hj, if_neg hj]; exact ⟨_, rfl⟩
theorem call_min2 (hc : X.calm = true) : CallR X (.builtin "min") (fun xs H Q => ∃ i j, xs = [.int i, .int j] ∧ Q (.int (if j < i then j else i)) H) := by
  refine .mk ?_
  intro pins s σ H xs us Q I r h
  obtain ⟨i, j, rfl, q⟩ := h
  obtain ⟨u, w', rfl, ⟨t, rfl⟩, ⟨t', rfl⟩⟩ := vals2 r
  refine min_two_ints (I.ok.hd hc) fun h' tk k => ⟨_, H, I.kept k, ?_, q⟩
  by_cases hj : j < i
  · rw [if_pos hj, if_pos hj]; exact ⟨_, rfl⟩
  · rw [if_neg hj, if_neg hj]; exact ⟨_, rfl⟩
theorem call_str_int : CallR X (.type "str") (fun xs H Q => ∃ i, xs = [.int i] ∧ i.natAbs.log2 < 1920 ∧ Q (.str (toString i)) H) := by
  refine .mk ?_
  intro pins s σ H xs us Q I r h
  obtain ⟨i, rfl, hz, q⟩ := h
  obtain ⟨u, rfl, t, rfl⟩ := vals1 r
  exact PySem.P.str_of_int hz ⟨.str _, H, I.tok _, ⟨_, rfl⟩, q⟩
end
end L2

namespace L2
open PySem PySem.Spec PyProof.Rows

/-! ### an instance, its attributes a map -/
structure ObjM (h : Heap) (x dx C : Addr) (mA : Str → Option Value) : Prop where
  obj : h.get? x = some (PySem.W.instObj C dx)
  ns : h.Ns1 dx mA
  ne : dx ≠ x

theorem lookIn_ns {h : Heap} {dx : Addr} {mA : Str → Option Value} (n : h.Ns1 dx mA) : ∃ od, h.get? dx = some od ∧ ∀ name, PySem.W.lookIn name od = some (mA name) := by
  obtain ⟨o, es, ep, ho, hd, hk, _, hm⟩ := n
  refine ⟨o, ho, fun name => ?_⟩
  have e := hm name
  unfold nsFind findBy at e
  rw [← Array.find?_toList] at e
  unfold PySem.W.lookIn
  rw [hd]
  dsimp only
  split
  · rename_i y q
    rw [q] at e
    exact congrArg some e
  · rename_i q
    rw [q] at e
    have a : es.toList.any (·.refKey) = false := by
      rw [List.any_eq_false]
      intro y hy
      obtain ⟨z, t, hkey⟩ := hk y (Array.mem_toList_iff.mp hy)
      simp [DictEntry.refKey, hkey]
    have a' : ¬ es.toList.any (·.refKey) = true := by rw [a]; exact Bool.false_ne_true
    rw [if_neg a']
    exact congrArg some e

theorem ObjM.look {h : Heap} {x dx C : Addr} {mA : Str → Option Value} (I : ObjM h x dx C mA) : ∃ od, PySem.W.InstAt h x (PySem.W.instObj C dx) C (some od) ∧ ∀ name, PySem.W.lookIn name od = some (mA name) :=
  let ⟨od, ho, hl⟩ := lookIn_ns I.ns
  ⟨od, ⟨I.obj, rfl, rfl, ho⟩, hl⟩

section
variable {prog : Program} {w : World} {A : Around} {E : Value → Shared → Prop} {s : Shared} {K : PySem.W.Frag} {x dx C f : Addr} {mA : Str → Option Value} {name : Str} {v : Value}

end

/-! ### the attributes as a list of pairs -/
theorem RelO.none_of {o : Option Value} (r : RelO none o) : o = none := by
  cases o with
  | none => rfl
  | some u => exact (show False from r).elim
section
variable {P : Program} {w : World} {H H' : Hp} {h h' : Heap} {a C dx : Addr} {fs fs' : List (Str × V)}
theorem ins_get (hok : HOk P w H h) (e : H a = some (.ins C dx fs)) : ∃ mA, ObjM h a dx C mA ∧ (∀ f, RelO (fs.lookup f) (mA f)) ∧ PySem.Within mA (fs.map (·.1)) ∧ fs.length ≤ 1000 ∧ H dx = some (.own a) := by
  obtain ⟨d, z, ne, ob, mA, n, r, q⟩ := (show ObjOk P w H h a (.ins C dx fs) from hok a _ e)
  exact ⟨mA, ⟨ob, n, ne⟩, r, q, z, d⟩
end

/-! ### what of the text a class must have -/
structure Cls (K : PySem.W.Frag) (C : Addr) : Prop where
  pg : PySem.W.plainGet K C Str.empty = true
  hd : PySem.W.hasDictIn K C = true
  po : PySem.W.plainOver K C = true
  sa : PySem.W.findIn K (.ref C) "__setattr__" = some (some (.builtin "object.__setattr__"))
theorem Cls.get {K : PySem.W.Frag} {C : Addr} (c : Cls K C) (f : Str) : PySem.W.plainGet K C f = true := c.pg
/-- a constant of the class -/
structure Con (K : PySem.W.Frag) (C : Addr) (f : Str) (v : V) (u : Value) : Prop where
  at_ : PySem.W.findIn K (.ref C) f = some (some u)
  rel : RelV v u
  get : PySem.W.specialIn K u "__get__" = some none
  cp : PySem.W.copiedNames.contains f = false
/-- a method: a plain def of the class or of one above it -/
structure Meth (K : PySem.W.Frag) (C : Addr) (m : Str) (f : Addr) : Prop where
  at_ : PySem.W.findIn K (.ref C) m = some (some (.ref f))
  fn : PySem.W.isFn K (.ref f) = true
  kp : PySem.W.keepIn K (.ref f) = true

section
variable {X : Cx} {pins : List (Addr × Obj)} {σ : St} {H : Hp} {s : Shared} {a C dx : Addr} {fs : List (Str × V)} {f : Str} {v : V} {A : Around} {E : Value → Shared → Prop}

/-- a new instance, tracked, without attributes -/
theorem Inv.made (I : Inv X pins σ H s) : Inv X pins σ (upd (upd H s.heap.objs.size (.own (s.heap.objs.size + 1))) (s.heap.objs.size + 1) (.ins C s.heap.objs.size []))
    { s with heap := (s.heap.push PySem.W.emptyDict).push (PySem.W.instObj C s.heap.objs.size) } := by
  have e1 : (s.heap.push PySem.W.emptyDict).get? s.heap.objs.size = some PySem.W.emptyDict := Heap.get?_push_size s.heap rfl
  have e2 : ((s.heap.push PySem.W.emptyDict).push (PySem.W.instObj C s.heap.objs.size)).get? (s.heap.objs.size + 1) = some (PySem.W.instObj C s.heap.objs.size) := by
    have := Heap.get?_push_size (s.heap.push PySem.W.emptyDict) (o := PySem.W.instObj C s.heap.objs.size) rfl
    rwa [Heap.size_push] at this
  have e3 : (s.heap.push PySem.W.emptyDict).Ns s.heap.objs.size (fun _ => none) := ⟨PySem.W.emptyDict, #[], _, e1, rfl, (fun e he => absurd he (by simp)), fun _ => rfl⟩
  have I1 := I.laid (a := s.heap.objs.size) (o := .own (s.heap.objs.size + 1)) (h' := s.heap.push PySem.W.emptyDict) (t' := s.toks) (fun b u q => Heap.get?_push_of_some _ q) (Nat.le_refl _) ⟨_, e1⟩
  refine I1.laid (a := s.heap.objs.size + 1) (o := .ins C s.heap.objs.size []) (t' := s.toks) (fun b u q => Heap.get?_push_of_some _ q) (Nat.le_of_eq (Heap.size_push _ _)) ?_
  have ne : s.heap.objs.size ≠ s.heap.objs.size + 1 := Nat.ne_of_lt (Nat.lt_succ_self _)
  refine ⟨by rw [upd_ne ne, upd_same], Nat.zero_le _, ne, e2, fun _ => none, (Heap.Ns1.of_empty e3).at fun o q => Heap.get?_push_of_some _ q, fun _ => True.intro, fun y hy => absurd rfl hy⟩

end

/-! ### readings and rules -/
section
variable {X : Cx} {o e value : Expr} {f : Str} {pos pos' tpos : Pos} {ta tv : TE}
end

/-! ### isinstance -/
section
variable {X : Cx} {pins : List (Addr × Obj)} {σ : St} {H : Hp} {s : Shared} {A : Around} {E : Value → Shared → Prop} {Q : Value → Shared → Prop} {c : Value} {b : Bool}
/-- the type of a value, as the fragment's deciders take it; for an instance its class -/
inductive TyOf (K : PySem.W.Frag) (H : Hp) : V → Value → Prop where
  | non : TyOf K H .non (.type "NoneType")
  | bl (x : Bool) : TyOf K H (.bl x) (.type "bool")
  | int (i : Int) : TyOf K H (.int i) (.type "int")
  | str (x : Str) : TyOf K H (.str x) (.type "str")
  | flt (x : UInt64) : TyOf K H (.flt x) (.type "float")
  | lst {a : Addr} {xs : List V} (e : H a = some (.lst xs)) : TyOf K H (.ref a) (.type "list")
  | frz {a : Addr} {o : Obj} {xs : List V} (e : H a = some (.frz o (.lst xs))) : TyOf K H (.ref a) (.type "list")
  | tup {a : Addr} {xs : List V} (e : H a = some (.tup xs)) : TyOf K H (.ref a) (.type "tuple")
  | dK {a : Addr} {kvs : List (Key × V)} (e : H a = some (.dK kvs)) : TyOf K H (.ref a) (.type "dict")
  | dT {a : Addr} {kvs : List (List Key × V)} (e : H a = some (.dT kvs)) : TyOf K H (.ref a) (.type "dict")
  | ins {a C dx : Addr} {fs : List (Str × V)} (e : H a = some (.ins C dx fs)) (cl : Cls K C) (ha : PySem.W.findIn K (.ref C) "__class__" = some (some (.builtin "object.__class__")))
      (hn : PySem.W.specialIn K (.builtin "object.__class__") "__get__" = some (some (.builtin "getset_descriptor.__get__"))) (htk : PySem.W.takesIn K (.builtin "object.__class__") = some true)
      (hm : PySem.W.mroIn K C (.type "object") = some true) : TyOf K H (.ref a) (.ref C)
/-- isinstance(x, c) for one class c, a built-in or an own one: kitOne's answer -/
theorem isinst_ok {x : V} {u t : Value} (I : Inv X pins σ H s) (rx : RelV x u) (ty : TyOf X.K H x t) (e : PySem.W.kitOne X.K t c = some b) (h : ∀ tk, Q (.bool b) { s with toks := tk }) :
    wpAny (model X.prog X.w) A (call (.builtin "isinstance") [u, c]) Q E s := by
  cases ty with
  | non => cases (show u = Value.none from rx); exact PySem.W.kia_one PySem.W.kitx_none I.kIn True.intro e (fun z => nomatch z) h
  | bl y => cases (show u = Value.bool y from rx); exact PySem.W.kia_one PySem.W.kitx_bool I.kIn True.intro e (fun z => nomatch z) h
  | int i => obtain ⟨t, q⟩ := (show ∃ t, u = Value.int i t from rx); cases q; exact PySem.W.kia_one PySem.W.kitx_int I.kIn True.intro e (fun z => nomatch z) h
  | str y => obtain ⟨t, q⟩ := (show ∃ t, u = Value.str y t from rx); cases q; exact PySem.W.kia_one PySem.W.kitx_str I.kIn True.intro e (fun z => nomatch z) h
  | flt y => obtain ⟨t, q⟩ := (show ∃ t, u = Value.float y t from rx); cases q; exact PySem.W.kia_one PySem.W.kitx_float I.kIn True.intro e (fun z => nomatch z) h
  | @lst a xs ea =>
    cases (show u = Value.ref a from rx)
    obtain ⟨_, _, n, _, h1⟩ := (show ObjOk X.prog X.w H s.heap a (.lst xs) from I.hok a _ ea)
    exact PySem.W.kia_one PySem.W.kitx_list I.kIn ⟨_, h1, rfl⟩ e (fun z => nomatch z) h
  | @frz a ob xs ea =>
    cases (show u = Value.ref a from rx)
    obtain ⟨_, _, _, n, _, h1⟩ := (show ObjOk X.prog X.w H s.heap a (.frz ob (.lst xs)) from I.hok a _ ea)
    exact PySem.W.kia_one PySem.W.kitx_list I.kIn ⟨_, h1, rfl⟩ e (fun z => nomatch z) h
  | @tup a xs ea =>
    cases (show u = Value.ref a from rx)
    obtain ⟨_, _, _, p⟩ := (show ObjOk X.prog X.w H s.heap a (.tup xs) from I.hok a _ ea)
    obtain ⟨o, h1, h2, _⟩ := p
    exact PySem.W.kia_one PySem.W.kitx_tuple I.kIn ⟨o, h1, h2⟩ e (fun z => nomatch z) h
  | @dK a kvs ea =>
    cases (show u = Value.ref a from rx)
    obtain ⟨_, _, vs, _, p⟩ := (show ObjOk X.prog X.w H s.heap a (.dK kvs) from I.hok a _ ea)
    obtain ⟨o, es, ep, h1, h2, _⟩ := p
    exact PySem.W.kia_one PySem.W.kitx_dict I.kIn ⟨o, h1, h2.1⟩ e (fun z => nomatch z) h
  | @dT a kvs ea =>
    cases (show u = Value.ref a from rx)
    obtain ⟨_, _, xs, _, o, es, ep, h1, h2, _⟩ := (show ObjOk X.prog X.w H s.heap a (.dT kvs) from I.hok a _ ea)
    exact PySem.W.kia_one PySem.W.kitx_dict I.kIn ⟨o, h1, h2.1⟩ e (fun z => nomatch z) h
  | @ins a C dx fs ea cl ha hn htk hm =>
    cases (show u = Value.ref a from rx)
    obtain ⟨mA, O, _⟩ := ins_get I.hok ea
    obtain ⟨od, J, _⟩ := O.look
    exact PySem.W.kia_one (PySem.W.kitx_own (cl.get _) cl.hd ha hn htk hm) I.kIn J e (fun z => nomatch z) h
end
end L2

namespace L2
open PySem PySem.Spec PyProof.Rows

/-! ### room -/
structure Room (k : Nat) (A : Around) : Prop where
  hd : A.handled = none
  dp : A.depth + 3 * k + 5 < recursionLimit
  un : A.units + 16 * k + 200 < cLine
  gd : A.guards = some []
theorem Room.mono {j k : Nat} {A : Around} (r : Room k A) (h : j ≤ k) : Room j A := ⟨r.hd, by have := r.dp; omega, by have := r.un; omega, r.gd⟩
theorem Room.deeper {k : Nat} {A : Around} (r : Room (k + 1) A) (env : Env) : Room k (A.deeper env) :=
  ⟨r.hd, by have := r.dp; show A.depth + 1 + 3 * k + 5 < _; omega, by have := r.un; show A.units + 3 + 16 * k + 200 < _; omega, by first | exact r.gd | (simpa [Around.deeper, Around.under, Code.guards, Code.isGuard, guardIds, pushGuards] using r.gd)⟩
theorem Room.in1 {k : Nat} {A : Around} (r : Room (k + 1) A) : Room k A.in1 :=
  ⟨r.hd, by have := r.dp; show A.depth + 3 * k + 5 < _; omega, by have := r.un; show A.units + 1 + 16 * k + 200 < _; omega, r.gd⟩
theorem make_depth {A : Around} {C : Addr} {us : List Value} {kw : List (Str × Value)} : (A.under (.builtin "type.__call__" ⟨.ref C :: us, kw⟩)).depth = A.depth + 1 := by
  first | rfl | simp [Around.under, Code.weight, Code.isCreation, Code.isGuard, Code.isCaller, Code.frames, Code.isFrame, guardIds]
theorem make_units {A : Around} {C : Addr} {us : List Value} {kw : List (Str × Value)} : (A.under (.builtin "type.__call__" ⟨.ref C :: us, kw⟩)).units = A.units + 1 := by
  first | rfl | simp [Around.under, Code.cUnits, Code.frames, Code.isFrame]
theorem Room.make {k : Nat} {A : Around} (r : Room (k + 1) A) (C : Addr) (us : List Value) (kw : List (Str × Value)) : Room k (A.under (.builtin "type.__call__" ⟨.ref C :: us, kw⟩)) :=
  ⟨r.hd, by have := r.dp; rw [make_depth]; omega, by have := r.un; rw [make_units]; omega, by first | exact r.gd | (simpa [Around.deeper, Around.under, Code.guards, Code.isGuard, guardIds, pushGuards] using r.gd)⟩
theorem Room.depth {k : Nat} {A : Around} (r : Room k A) : A.depth < recursionLimit := by have := r.dp; omega
theorem Room.units {k : Nat} {A : Around} (r : Room k A) : A.units + 64 < cLine := by have := r.un; omega
/-! ### argument lists and displays -/
def tNil : TA := fun _ H Q => Q [] H
def tCons (ta : TE) (tr : TA) : TA := fun σ H Q => ta σ H fun x H1 => tr σ H1 fun xs H2 => Q (x :: xs) H2
section
variable {X : Cx} {e : Expr} {es : List Expr} {te : TE} {t : TA} {pos : Pos}
theorem pa_nil : PA X [] tNil := .mk <| fun _ _ _ _ H Q I h => Calls.spliced_nil ⟨[], H, I, .nil, h⟩
theorem pa_cons (ha : PE X e te) (hr : PA X es t) (hs : starEach (e :: es) X.env = (false, eval e X.env) :: starEach es X.env := by rfl) : PA X (e :: es) (tCons te t) := by
  refine .mk ?_
  intro pos pins s σ H Q I h
  rw [hs]
  show wpAny _ _ (spliced ((false, eval e X.env) :: backTo pos (starEach es X.env))) _ _ s
  refine Calls.spliced_cons (thn (ha pins s σ H _ I h) fun u s1 ⟨x, H1, I1, r1, q1⟩ => ?_)
  exact thn (hr pos pins s1 σ H1 _ I1 q1) fun us s2 ⟨xs, H2, I2, r2, q2⟩ => ⟨x :: xs, H2, I2, .cons r1 r2, q2⟩

/-- a tuple, a list of written items -/
def tTup (t : TA) : TE := fun σ H Q => t σ H fun xs H1 => xs.length ≤ sizeLine ∧ ∀ p, H1 p = none → Q (.ref p) (upd H1 p (.tup xs))
def tLst (t : TA) : TE := fun σ H Q => t σ H fun xs H1 => xs.length ≤ sizeLine ∧ ∀ p, H1 p = none → Q (.ref p) (upd H1 p (.lst xs))
theorem pe_lst (h : PA X es t) : PE X (.List es pos) (tLst t) := by
  refine .mk ?_
  intro pins s σ H Q I hq
  refine wpAny_List_spliced (thn (h pos pins s σ H _ I hq) fun us s1 ⟨xs, H1, I1, r, z, q⟩ => ⟨by rw [← r.length]; exact z, ?_⟩)
  have hf : H1 s1.heap.objs.size = none := I1.hok.fresh (Nat.le_refl _)
  refine ⟨.ref s1.heap.objs.size, upd H1 s1.heap.objs.size (.lst xs), I1.laid (t' := s1.toks) (fun b u e => Heap.get?_push_of_some _ e) (Nat.le_refl _) ?_, rfl, q _ hf⟩
  exact ⟨z, us, 0, r, Heap.get?_push_size _ rfl⟩
end

/-! ### what a def promises -/
/-- a def's promise: the bound arguments in the parameters' order, the heap, the wanted end, the wanted exception -/
abbrev Sp := List V → Hp → VK → XK → Prop
/-- how an exception lies behind a call (file 08 gives it): the callers' frames, abstract heap and state ahead of the call, the wish, the exception, the state -/
abbrev CXT := List Env → Hp → Shared → XK → Value → Shared → Prop

/-- the state at a call -/
structure Env0 (P : Program) (w : World) (K : PySem.W.Frag) (mg : Str → Option Value) (base : Heap) (A : Around) (outer : List Env) (s : Shared) (H : Hp) : Prop where
  frames : A.frames = some outer
  mod : Mod K mg base
  bs : ∀ b o, base.get? b = some o → s.heap.get? b = some o ∧ H b = none
  bsz : base.objs.size ≤ s.heap.objs.size
  funs : s.heap.FunFrames base outer
  frf : ∀ b ∈ frs outer, H b = none
  hok : HOk P w H s.heap
  bare : AllBare s.gens
/-- a call's end -/
def CE (outer : List Env) (P : Program) (w : World) (H : Hp) (s : Shared) (Q : VK) (u : Value) (s' : Shared) : Prop :=
  ∃ v H', s'.os = s.os ∧ AllBare s'.gens ∧ Un (frs outer) [] H H' s.heap s'.heap ∧ HOk P w H' s'.heap ∧ RelV v u ∧ Q v H'
def CR (CX : CXT) (outer : List Env) (P : Program) (w : World) (H : Hp) (s : Shared) (Q : VK) (E : XK) (r : Result) (s' : Shared) : Prop :=
  match r with
  | .ok (.ret u) => CE outer P w H s Q u s'
  | .ok _ => False
  | .error e => CX outer H s E e s'
structure FnOk (P : Program) (w : World) (K : PySem.W.Frag) (mg : Str → Option Value) (base : Heap) (CX : CXT) (k : Nat) (f : Addr) (fd : FuncData) (ps : List Str) (sp : Sp) : Prop where
  len : ∀ vs H Q E, sp vs H Q E → vs.length = ps.length
  run : ∀ (A : Around) (outer : List Env) (s : Shared) (H : Hp) (args : Args) (us : List Value) (vs : List V) (Q : VK) (E : XK), Room k A → Env0 P w K mg base A outer s H → BindsTo s fd args (ps.zip us) → Vals vs us → sp vs H Q E →
    codeAny (model P w) A (.call (.ref f) args) (CR CX outer P w H s Q E) s
theorem FnOk.mono {P : Program} {w : World} {K : PySem.W.Frag} {mg : Str → Option Value} {base : Heap} {CX : CXT} {j k : Nat} {f : Addr} {fd : FuncData} {ps : List Str} {sp : Sp} (F : FnOk P w K mg base CX j f fd ps sp) (h : j ≤ k) :
    FnOk P w K mg base CX k f fd ps sp := ⟨F.len, fun A outer s H args us vs Q E hr => F.run A outer s H args us vs Q E (hr.mono h)⟩
theorem Env0.make {P : Program} {w : World} {K : PySem.W.Frag} {mg : Str → Option Value} {base : Heap} {A : Around} {outer : List Env} {s : Shared} {H : Hp} (e : Env0 P w K mg base A outer s H) (C : Addr) (us : List Value) (kw : List (Str × Value)) :
    Env0 P w K mg base (A.under (.builtin "type.__call__" ⟨.ref C :: us, kw⟩)) outer s H := ⟨by first | exact e.frames | (simpa [Around.under, Code.envs, Code.isFrame, pushEnvs] using e.frames), e.mod, e.bs, e.bsz, e.funs, e.frf, e.hok, e.bare⟩
theorem Env0.in1 {P : Program} {w : World} {K : PySem.W.Frag} {mg : Str → Option Value} {base : Heap} {A : Around} {outer : List Env} {s : Shared} {H : Hp} (e : Env0 P w K mg base A outer s H) :
    Env0 P w K mg base A.in1 outer s H := ⟨e.frames, e.mod, e.bs, e.bsz, e.funs, e.frf, e.hok, e.bare⟩

section
variable {X : Cx} {pins : List (Addr × Obj)} {σ : St} {H : Hp} {s s' : Shared}
/-- from a body: what a callee wants -/
theorem Inv.env0 (I : Inv X pins σ H s) : Env0 X.prog X.w X.K X.mg X.base X.A X.stack s H :=
  ⟨I.ok.frames, I.ok.mod, I.bs, Nat.le_trans I.ok.bsz I.sz, I.stack, I.stkFree, I.hok, I.bare⟩
/-- behind a call -/
theorem Inv.after {Q : VK} {u : Value} (I : Inv X pins σ H s) (h : CE X.stack X.prog X.w H s Q u s') : EP X pins σ Q u s' := by
  obtain ⟨v, H', os, bare, un, hok, r, q⟩ := h
  obtain ⟨hh, g, d, t, os'⟩ := s'
  obtain rfl : os' = s.os := os
  exact ⟨v, H', I.call (h' := hh) (g' := g) (d' := d) (t' := t) (ch := []) un hok bare (fun b z => absurd z (by simp)), r, q⟩
end

/-! ### calls -/
/-- f(..): the written arguments, then the defaults dvs; E: what is wanted of an exception -/
def tCall (sp : Sp) (dvs : List V) (E : XK) (t : TA) : TE := fun σ H Q => t σ H fun vs H1 => sp (vs ++ dvs) H1 Q E
/-- how the parameters are bound: us the positional arguments, kw the keywords' values by name, ds the defaults that fill up -/
def Binds (K : PySem.W.Frag) (fd : FuncData) (ps : List Str) (ds : List Value) : Prop :=
  ∀ (s : Shared) (us : List Value), K.In s.heap → (us ++ ds).length = ps.length → BindsTo s fd ⟨us, []⟩ (ps.zip (us ++ ds))
/-- every parameter is given -/
theorem Binds.all {K : PySem.W.Frag} {fd : FuncData} {ps : List Str} (h : ∀ us : List Value, us.length = ps.length → bindArgs fd ⟨us, []⟩ = pure (ps.zip us)) : Binds K fd ps [] := fun s us _ hl => by
  rw [List.append_nil] at hl ⊢
  exact .of_eq (h us hl)

/-- an exception of a callee reaches what this body wants of exceptions -/
def Passes (CX : CXT) (X : Cx) (E : XK) : Prop := ∀ (pins : List (Addr × Obj)) (σ : St) (H : Hp) (s : Shared) (e : Value) (s' : Shared), Inv X pins σ H s → CX X.stack H s E e s' → X.xe e s'

section
variable {X : Cx} {CX : CXT} {k : Nat} {f C : Addr} {fd : FuncData} {ps : List Str} {sp : Sp} {dvs : List V} {ds : List Value} {E : XK} {x m : Str} {p pos apos : Pos} {e o : Expr} {es : List Expr} {ta : TE} {t : TA}

/-- the callee runs -/
theorem run_fn {pins : List (Addr × Obj)} {σ : St} {H : Hp} {s : Shared} {Q : VK} {us : List Value} {vs : List V} (F : FnOk X.prog X.w X.K X.mg X.base CX k f fd ps sp) (hr : Room k X.A) (hb : Binds X.K fd ps ds) (hd : Vals dvs ds) (hx : Passes CX X E)
    (I : Inv X pins σ H s) (r : Vals vs us) (h : sp (vs ++ dvs) H Q E) : wpAny (model X.prog X.w) X.A (call (.ref f) us) (EP X pins σ Q) X.xe s := by
  have r2 : Vals (vs ++ dvs) (us ++ ds) := r.append hd
  have hl : (us ++ ds).length = ps.length := by rw [← r2.length]; exact F.len _ _ _ _ h
  refine wpAny_call (codeAny_mono (F.run X.A X.stack s H ⟨us, []⟩ (us ++ ds) (vs ++ dvs) Q E hr I.env0 (hb s us I.kIn hl) r2 h) fun r s' hq => ?_)
  cases r with
  | error e => exact hx pins σ H s e s' I hq
  | ok fl =>
    cases fl with
    | ret u => exact I.after hq
    | next => exact False.elim hq
    | brk => exact False.elim hq
    | cont => exact False.elim hq

theorem pe_call (F : FnOk X.prog X.w X.K X.mg X.base CX k f fd ps sp) (hr : Room k X.A) (hg : Gl X x) (hm : X.mg x = some (.ref f)) (hk : PySem.W.keepIn X.K (.ref f) = true) (hb : Binds X.K fd ps ds) (hd : Vals dvs ds) (hx : Passes CX X E)
    (ha : PA X (e :: es) t) (hdb : (x == ("__debug__" : Str)) = false := by decide) (he : starEach (e :: es) X.env = (false, eval e X.env) :: starEach es X.env := by rfl) (hpl : (backTo pos (starEach es X.env)).any (·.1) = false := by rfl) :
    PE X (.Call (.Name x p) (e :: es) [] pos) (tCall sp dvs E t) := by
  refine .mk ?_
  intro pins s σ H Q I h
  refine wpAny_Call_Name_kw (ld_glob I hg hm ?_ hdb)
  refine PySem.W.callWith_K (h₀ := X.base) I.ok.mod.kin hk (thn (ha pos pins s σ H _ I h) fun us s1 ⟨vs, H1, I1, r, q⟩ => ⟨I1.kIn, ?_⟩) he hpl
  exact run_fn F hr hb hd hx I1 r q
/-- what a class must have to be made -/
structure Mk (K : PySem.W.Frag) (C f : Addr) : Prop where
  makes : PySem.W.makesIn K C = true
  init : PySem.W.findIn K (.ref C) "__init__" = some (some (.ref f))
  fn : PySem.W.isFn K (.ref f) = true
  kp : PySem.W.keepIn K (.ref C) = true

end

/-! ### keywords -/
section
variable {X : Cx} {CX : CXT} {k : Nat} {f C : Addr} {fd : FuncData} {ps ks : List Str} {sp : Sp} {E : XK} {x m : Str} {p pos apos kpos : Pos} {e o : Expr} {es : List Expr} {kws : List Keyword} {te ta : TE} {t tk : TA} {nm : Option Str}
/-- how a call with keywords binds: g puts the positional values us and the keywords' values ws (names ks) in the parameters' order, defaults among them -/
structure KBinds (K : PySem.W.Frag) (fd : FuncData) (ps ks : List Str) (g : List Value → List Value → List Value) (gV : List V → List V → List V) : Prop where
  to : ∀ (s : Shared) (us ws : List Value), K.In s.heap → (g us ws).length = ps.length → BindsTo s fd ⟨us, ks.zip ws⟩ (ps.zip (g us ws))
  rel : ∀ {vs : List V} {us : List Value} {zs : List V} {ws : List Value}, Vals vs us → Vals zs ws → Vals (gV vs zs) (g us ws)
variable {g : List Value → List Value → List Value} {gV : List V → List V → List V}
end

/-! ### a def's body keeps its promise -/
/-- names: the parameters first -/
structure FnScope (N P : List Str) (sc : Scope) : Prop where
  kind : sc.kind = .function
  co : sc.isCoroutine = false
  gen : sc.isGenerator = false
  nd : N.Nodup
  pre : N.take P.length = P
  par : ∀ x ∈ P, sc.names.lookup x = some .local ∨ sc.names.lookup x = some .cell
  nofree : ∀ y ∈ sc.names, y.2 ≠ .free

theorem bindL_out {kindOf : Str → Option NameKind} {x : Str} : ∀ {binds : List (Str × Value)} {m : Str → Option Value}, (∀ v, (x, v) ∉ binds) → bindL kindOf binds m x = m x
  | [], _, _ => rfl
  | (n, v) :: r, m, h => by
    unfold bindL
    rw [bindL_out fun w hw => h w (List.mem_cons_of_mem _ hw)]
    split
    · have : x ≠ n := by rintro rfl; exact h v List.mem_cons_self
      simp [this]
    · rfl
theorem bindC_out {kindOf : Str → Option NameKind} {x : Str} : ∀ {binds : List (Str × Value)} {m : Str → Option Value}, (∀ v, (x, v) ∉ binds) → bindC kindOf binds m x = m x
  | [], _, _ => rfl
  | (n, v) :: r, m, h => by
    unfold bindC
    rw [bindC_out fun w hw => h w (List.mem_cons_of_mem _ hw)]
    split
    · rfl
    · have : x ≠ n := by rintro rfl; exact h v List.mem_cons_self
      simp [this]
theorem bindL_get {kindOf : Str → Option NameKind} {x : Str} {v : Value} : ∀ {P : List Str} {vs : List Value} {i : Nat} {m : Str → Option Value}, P.Nodup → P[i]? = some x → vs[i]? = some v → kindOf x = some .local →
    bindL kindOf (P.zip vs) m x = some v
  | [], _, _, _, _, h, _, _ => by simp at h
  | _ :: _, [], _, _, _, _, h, _ => by simp at h
  | p :: P, w :: vs, 0, m, nd, h1, h2, hk => by
    simp at h1 h2; subst h1; subst h2
    show bindL kindOf ((p, w) :: P.zip vs) m p = _
    unfold bindL
    rw [bindL_out fun v hv => (List.nodup_cons.mp nd).1 (List.of_mem_zip hv).1, if_pos hk]
    simp
  | p :: P, w :: vs, i + 1, m, nd, h1, h2, hk => by
    show bindL kindOf ((p, w) :: P.zip vs) m x = _
    unfold bindL
    exact bindL_get (i := i) (List.nodup_cons.mp nd).2 (by simpa using h1) (by simpa using h2) hk
theorem bindC_get {kindOf : Str → Option NameKind} {x : Str} {v : Value} : ∀ {P : List Str} {vs : List Value} {i : Nat} {m : Str → Option Value}, P.Nodup → P[i]? = some x → vs[i]? = some v → kindOf x ≠ some .local →
    bindC kindOf (P.zip vs) m x = some v
  | [], _, _, _, _, h, _, _ => by simp at h
  | _ :: _, [], _, _, _, _, h, _ => by simp at h
  | p :: P, w :: vs, 0, m, nd, h1, h2, hk => by
    simp at h1 h2; subst h1; subst h2
    show bindC kindOf ((p, w) :: P.zip vs) m p = _
    unfold bindC
    rw [bindC_out fun v hv => (List.nodup_cons.mp nd).1 (List.of_mem_zip hv).1, if_neg hk]
    simp
  | p :: P, w :: vs, i + 1, m, nd, h1, h2, hk => by
    show bindC kindOf ((p, w) :: P.zip vs) m x = _
    unfold bindC
    exact bindC_get (i := i) (List.nodup_cons.mp nd).2 (by simpa using h1) (by simpa using h2) hk

/-- the names' values at the entry -/
def start (N : List Str) (vs : List V) : St := vs.map some ++ List.replicate (N.length - vs.length) none

/-- the context of a def's body, at its entry; an exception leaves the frame, then lies as CX says -/
def cxOf (CX : CXT) (P : Program) (w : World) (K : PySem.W.Frag) (mg : Str → Option Value) (base : Heap) (N : List Str) (qual : Str) (scope : Scope) (f : Addr) (cd : Value) (A : Around) (outer : List Env) (s : Shared) (H : Hp) (E : XK) : Cx where
  prog := P
  w := w
  K := K
  mg := mg
  base := base
  A := A.deeper (envOfC qual scope s.heap.objs.size f cd)
  N := N
  s₀ := s
  H₀ := H
  env := envOfC qual scope s.heap.objs.size f cd
  outer := outer
  stack := envOfC qual scope s.heap.objs.size f cd :: outer
  ex := []
  calm := true
  fn := fun _ => true
  pn := []
  xe := fun e s' => wpAny (model P w) (A.deeper (envOfC qual scope s.heap.objs.size f cd)) (leaving (envOfC qual scope s.heap.objs.size f cd) e) (fun _ s'' => CX outer H s E e s'') (fun e' s'' => CX outer H s E e' s'') s'

theorem cell_has {sc : Scope} {n : Nat} {x : Str} (h : sc.names.lookup x = some .cell) : ∃ c, (cellsFrom n sc.names []).lookup x = some c := by
  have q := PySem.W.cellsFrom_some sc.names n [] (.inl h)
  exact Option.isSome_iff_exists.mp q

theorem inv_start {CX : CXT} {P : Program} {w : World} {K : PySem.W.Frag} {mg : Str → Option Value} {base : Heap} {N ps : List Str} {qual : Str} {scope : Scope} {f : Addr} {cd : Value} {A : Around} {outer : List Env} {s s1 : Shared} {H : Hp} {E : XK} {us : List Value} {vs : List V}
    (S : FnScope N ps scope) (hd : A.handled = none) (e0 : Env0 P w K mg base A outer s H) (hl : vs.length = ps.length) (r : Vals vs us)
    (x : InCallC s s.heap.objs.size (bindL (envOfC qual scope s.heap.objs.size f cd).kindOf (ps.zip us) fun _ => none) (cellsFrom (s.heap.objs.size + 1) scope.names []) (bindC (envOfC qual scope s.heap.objs.size f cd).kindOf (ps.zip us) fun _ => none) s1) :
    Inv (cxOf CX P w K mg base N qual scope f cd A outer s H E) [] (start N vs) H s1 := by
  have hpl : ps.length ≤ N.length := by have := congrArg List.length S.pre; rw [List.length_take] at this; omega
  obtain ⟨h1, tk, rfl, hk⟩ := x.done
  have noA : ∀ b : Addr, b ∉ (cxOf CX P w K mg base N qual scope f cd A outer s H E).ex := fun b z => absurd (show b ∈ ([] : List Addr) from z) (by simp)
  refine ⟨⟨e0.mod, S.kind, rfl, rfl, Nat.le_refl _, fun y z c h1 h2 => ?_, fun y hy => ?_, fun y c _ h => ?_, fun _ => hd, Around.frames_deeper e0.frames, .inr ⟨rfl, rfl⟩, fun b z => absurd z (noA b), e0.bs, e0.bsz, fun b _ _ => noA b, fun b z => absurd z (noA b), e0.funs, e0.frf⟩,
    rfl, e0.bare, Un.kept hk, ⟨_, x.toInCall.ns, fun i y v h1 h2 h3 => ?_⟩, fun y c h => ⟨_, x.cell y c h⟩, e0.hok.fresh (Nat.le_refl _), fun y c h => ?_, fun p hp => absurd (show p ∈ ([] : List (Addr × Obj)) from hp) (by simp), e0.hok.kept hk, ?_⟩
  · exact name_of_addr x.apart (PySem.mem_of_lookup h1) (PySem.mem_of_lookup h2)
  · have hy : scope.names.lookup y = some .cell ∨ scope.names.lookup y = some .free := hy
    rcases hy with hy | hy
    · exact cell_has hy
    · exact absurd rfl (S.nofree _ (PySem.mem_of_lookup hy))
  · exact Nat.le_of_lt (x.above y c (PySem.mem_of_lookup h))
  · have hi : i < vs.length := by
      unfold start at h2
      by_cases hi : i < vs.length
      · exact hi
      · rw [List.getElem?_append_right (by simpa using hi)] at h2
        rw [List.getElem?_replicate] at h2
        split at h2 <;> cases h2
    have ha : vs[i]? = some v := by
      unfold start at h2
      rw [List.getElem?_append_left (by simpa using hi), List.getElem?_map] at h2
      cases e : vs[i]? with
      | none => rw [e] at h2; cases h2
      | some a => rw [e] at h2; cases h2; rfl
    obtain ⟨u, hu, rv⟩ := r.get ha
    have hp : ps[i]? = some y := by
      rw [← S.pre, List.getElem?_take_of_lt (by omega)]; exact h1
    have ndP : ps.Nodup := by rw [← S.pre]; exact S.nd.sublist (List.take_sublist _ _)
    refine ⟨u, rv, ?_⟩
    rcases S.par y (List.mem_of_getElem? hp) with k | k
    · exact .inl ⟨k, bindL_get ndP hp hu k⟩
    · obtain ⟨c, e⟩ := cell_has (n := s.heap.objs.size + 1) k
      refine .inr ⟨.inl k, c, e, ?_⟩
      have q := x.cell y c e
      rw [bindC_get ndP hp hu (by show scope.names.lookup y ≠ _; rw [k]; decide)] at q
      exact q
  · exact e0.hok.fresh (Nat.le_of_lt (x.above y c (PySem.mem_of_lookup h)))
  · unfold start
    show _ = N.length
    rw [List.length_append, List.length_map, List.length_replicate]
    omega

/-- THE RULE: a def (or a method) of the text, by its body. The body's reading t is chosen for each entry; it is run at the parameters' values -/
theorem fn_of {CX : CXT} {P : Program} {w : World} {K : PySem.W.Frag} {mg : Str → Option Value} {base : Heap} {k : Nat} {f : Addr} {name qual : Str} {params : Arguments} {body : List Stmt} {scope : Scope} {dV kV doc pm cdv ct oc : Value} {an od : Option Addr}
    {osl : Array (Option Value)} {N ps : List Str} {sp : Sp} (lk : K.lookup f = some ⟨oc, od, .func (PySem.W.fnOf name qual params body scope dV kV doc pm an cdv ct), osl⟩) (hcd : PySem.W.codeIn K cdv qual = true) (S : FnScope N ps scope)
    (len : ∀ vs H Q E, sp vs H Q E → vs.length = ps.length)
    (hbody : ∀ (A : Around) (outer : List Env) (s : Shared) (H : Hp) (vs : List V) (Q : VK) (E : XK), Room k (A.deeper (envOfC qual scope s.heap.objs.size f cdv)) → sp vs H Q E →
      ∃ t, PSs (cxOf CX P w K mg base N qual scope f cdv A outer s H E) body t ∧ t { nx := fun _ H' => Q .non H', rt := Q } (start N vs) H) :
    FnOk P w K mg base CX (k + 1) f (PySem.W.fnOf name qual params body scope dV kV doc pm an cdv ct) ps sp := by
  refine ⟨len, fun A outer s H args us vs Q E hr e0 hb r hsp => ?_⟩
  have hl := len _ _ _ _ hsp
  have KX : K.In s.heap := e0.mod.kin.keeps fun b o e => (e0.bs b o e).1
  have lim : s.heap.NoLimit := e0.mod.nolimit.keeps fun b o e => (e0.bs b o e).1
  have hkind : ∀ y ∈ ps.zip us, scope.names.lookup y.1 = some .local ∨ (scope.names.lookup y.1 = some .cell ∧ ((cellsFrom (s.heap.objs.size + 1) scope.names []).lookup y.1).isSome = true) := fun ⟨n, v⟩ hy => by
    rcases S.par n (List.of_mem_zip hy).1 with q | q
    · exact .inl q
    · exact .inr ⟨q, PySem.W.cellsFrom_some _ _ _ (.inl q)⟩
  refine codeAny_call_function hr.depth (KX _ _ lk) rfl S.co S.gen rfl (PySem.W.codeRec_of KX hcd) (hb _ _ _ _ ?_)
  refine wpAny_newFunctionEnv_cells S.kind hkind fun env he s1 x => ?_
  subst he
  refine ⟨lim.keeps x.toInCall.keep, codeAny_func ?_⟩
  obtain ⟨t, ht, hq⟩ := hbody A outer s H vs Q E (hr.deeper _) hsp
  have I : Inv (cxOf CX P w K mg base N qual scope f cdv A outer s H E) [] (start N vs) H s1 := inv_start S hr.hd e0 hl r x
  refine wpAny_mono (ht [] s1 (start N vs) H _ I hq) (fun fl s' hs => ?_) fun e s' hs => hs
  have fin : ∀ {σ' : St} {H' : Hp} {v : V} {u : Value}, Inv (cxOf CX P w K mg base N qual scope f cdv A outer s H E) [] σ' H' s' → RelV v u → Q v H' → CE outer P w H s Q u s' :=
    fun {σ' H' v u} J rv q => ⟨v, H', J.os, J.bare, J.base, J.hok, rv, q⟩
  cases fl with
  | ret u =>
    obtain ⟨v, σ', H', J, rv, q⟩ := hs
    exact fin J rv q
  | next =>
    obtain ⟨σ', H', J, q⟩ := hs
    exact fin (v := V.non) (u := Value.none) J rfl q
  | brk =>
    obtain ⟨_, _, _, q⟩ := hs
    exact False.elim q
  | cont =>
    obtain ⟨_, _, _, q⟩ := hs
    exact False.elim q
end L2

namespace L2
open PySem PySem.Spec PyProof.Rows
section
variable {X : Cx} {x : Str} {p pos : Pos} {e : Expr} {es : List Expr} {t : TA} {id T : String} {r : List V → Hp → VK → Prop}

def tCB (r : List V → Hp → VK → Prop) (t : TA) : TE := fun σ H Q => t σ H fun vs H1 => r vs H1 Q
/-- f(e, ..), f a built-in function -/
theorem pe_callB (hc : CallR X (.builtin id) r) (hg : Gl X x) (hm : X.mg x = none) (hv : bootBuiltins x = some (.builtin id)) (ha : PA X (e :: es) t) (hn : x ≠ "__name__" := by decide) (hdb : (x == ("__debug__" : Str)) = false := by decide)
    (he : starEach (e :: es) X.env = (false, eval e X.env) :: starEach es X.env := by rfl) (hpl : (backTo pos (starEach es X.env)).any (·.1) = false := by rfl) : PE X (.Call (.Name x p) (e :: es) [] pos) (tCB r t) := by
  refine .mk ?_
  intro pins s σ H Q I h
  refine wpAny_Call_Name_kw (ld_blt I hg hm hv ?_ hn hdb)
  exact PyProof.Rows.callWith_builtin1 (thn (ha pos pins s σ H _ I h) fun us s1 ⟨vs, H1, I1, r1, q1⟩ => hc pins s1 σ H1 vs us Q I1 r1 q1) he hpl
/-- T(e, ..), T a built-in type -/
theorem pe_callTy (hc : CallR X (.type T) r) (hg : Gl X x) (hm : X.mg x = none) (hv : bootBuiltins x = some (.type T)) (ha : PA X (e :: es) t) (hn : x ≠ "__name__" := by decide) (hdb : (x == ("__debug__" : Str)) = false := by decide)
    (he : starEach (e :: es) X.env = (false, eval e X.env) :: starEach es X.env := by rfl) (hpl : (backTo pos (starEach es X.env)).any (·.1) = false := by rfl) : PE X (.Call (.Name x p) (e :: es) [] pos) (tCB r t) := by
  refine .mk ?_
  intro pins s σ H Q I h
  refine wpAny_Call_Name_kw (ld_blt I hg hm hv ?_ hn hdb)
  exact PyProof.Rows.callWith_type1 (thn (ha pos pins s σ H _ I h) fun us s1 ⟨vs, H1, I1, r1, q1⟩ => hc pins s1 σ H1 vs us Q I1 r1 q1) he hpl
end
end L2

namespace HT
open PySem PyProof.Rows

section
open PySem.SeqAt
open PySem.AutoSeq1 (wpAny_loadPart')
open PySem.MeetsSeq PySem.MeetsSeq2 PySem.MeetsSeq3

end

section
variable {prog : Program} {w : World} {A : Around} {E : Value → Shared → Prop} {s : Shared}

/-! ### t[a:b], not the whole -/
/-- a slice's bound as a place among n (d where it is left out) -/
def sIx (n d : Nat) : Option Int → Nat
  | none => d
  | some v => if v < 0 then (v + (n : Int)).toNat else min v.toNat n
theorem sIx_none (n d : Nat) : sIx n d none = d := rfl
theorem sIx_nat (n d k : Nat) : sIx n d (some (k : Int)) = min k n := by
  show (if (k : Int) < 0 then ((k : Int) + (n : Int)).toNat else min (k : Int).toNat n) = min k n
  rw [if_neg (by omega), Int.toNat_natCast]
end
end HT

namespace L2
open PySem PySem.Spec PyProof.Rows

/-! ### the parts of a slice -/
abbrev TO := St → Hp → (Option Int → Hp → Prop) → Prop
/-- a slice's part (left out, or an int) -/
structure PO (X : Cx) (e : Option Expr) (t : TO) : Prop where
  mk ::
  go :
  ∀ (pins : List (Addr × Obj)) (s : Shared) (σ : St) (H : Hp) (Q : Option Int → Hp → Prop), Inv X pins σ H s → t σ H Q →
    wpAny (model X.prog X.w) X.A (evalPart e X.env) (fun u s' => ∃ o H', Inv X pins σ H' s' ∧ IsPart u o ∧ Q o H') X.xe s
instance {X : Cx} {e : Option Expr} {t : TO} : CoeFun (PO X e t) (fun _ =>
  ∀ (pins : List (Addr × Obj)) (s : Shared) (σ : St) (H : Hp) (Q : Option Int → Hp → Prop), Inv X pins σ H s → t σ H Q →
    wpAny (model X.prog X.w) X.A (evalPart e X.env) (fun u s' => ∃ o H', Inv X pins σ H' s' ∧ IsPart u o ∧ Q o H') X.xe s) := ⟨PO.go⟩
def tNoPart : TO := fun _ H Q => Q none H
def tPart (t : TE) : TO := fun σ H Q => t σ H fun x H1 => ∃ i, x = .int i ∧ Q (some i) H1

section
variable {X : Cx} {e : Expr} {te : TE} {lo hi : Option Expr} {tl th : TO} {pos p2 : Pos}

theorem po_none : PO X none tNoPart := by
  refine .mk ?_
  intro pins s σ H Q I h
  rw [evalPart_none]
  exact wpAny_pure ⟨none, H, I, .none, h⟩
theorem po_some (h : PE X e te) : PO X (some e) (tPart te) := by
  refine .mk ?_
  intro pins s σ H Q I hw
  rw [evalPart_some]
  refine thn (h pins s σ H _ I hw) fun u s1 ⟨x, H1, I1, r1, q1⟩ => ?_
  obtain ⟨i, rfl, q⟩ := q1
  obtain ⟨t, rfl⟩ := r1
  exact ⟨some i, H1, I1, .int i t, q⟩

/-- what a slice of a value is, by values: the slice object stands at sl -/
structure SlR (X : Cx) (r : V → Option Int → Option Int → Hp → VK → Prop) : Prop where
  mk ::
  go :
  ∀ (pins : List (Addr × Obj)) (s : Shared) (σ : St) (H : Hp) (x : V) (v vl vu : Value) (lo hi : Option Int) (sl : Addr) (Q : VK), Inv X pins σ H s → RelV x v → s.heap.IsSliceOf sl vl vu .none → IsPart vl lo → IsPart vu hi → r x lo hi H Q →
    ∃ T id, typeLookup (.type T) "__getitem__" = pure (some (.builtin id)) ∧ s.TypeIs v T ∧ wpAny (model X.prog X.w) X.A (getItem v (.ref sl)) (EP X pins σ Q) X.xe s
instance {X : Cx} {r : V → Option Int → Option Int → Hp → VK → Prop} : CoeFun (SlR X r) (fun _ =>
  ∀ (pins : List (Addr × Obj)) (s : Shared) (σ : St) (H : Hp) (x : V) (v vl vu : Value) (lo hi : Option Int) (sl : Addr) (Q : VK), Inv X pins σ H s → RelV x v → s.heap.IsSliceOf sl vl vu .none → IsPart vl lo → IsPart vu hi → r x lo hi H Q →
    ∃ T id, typeLookup (.type T) "__getitem__" = pure (some (.builtin id)) ∧ s.TypeIs v T ∧ wpAny (model X.prog X.w) X.A (getItem v (.ref sl)) (EP X pins σ Q) X.xe s) := ⟨SlR.go⟩
theorem SlR.or {r r' : V → Option Int → Option Int → Hp → VK → Prop} (h : SlR X r) (h' : SlR X r') : SlR X (fun x lo hi H Q => r x lo hi H Q ∨ r' x lo hi H Q) := by
  refine .mk ?_
  intro pins s σ H x v vl vu lo hi sl Q I rx hs pl pu q
  rcases q with q | q
  · exact h pins s σ H x v vl vu lo hi sl Q I rx hs pl pu q
  · exact h' pins s σ H x v vl vu lo hi sl Q I rx hs pl pu q
def tSl (r : V → Option Int → Option Int → Hp → VK → Prop) (te : TE) (tl th : TO) : TE := fun σ H Q => te σ H fun x H1 => tl σ H1 fun l H2 => th σ H2 fun u H3 => r x l u H3 Q
/-- a[lo:hi], any a -/
theorem pe_slice {r : V → Option Int → Option Int → Hp → VK → Prop} (hr : SlR X r) (he : PE X e te) (hl : PO X lo tl) (hu : PO X hi th) : PE X (.Subscript e (.Slice lo hi none p2) pos) (tSl r te tl th) := by
  refine .mk ?_
  intro pins s σ H Q I h
  refine Subscript_ (thn (he pins s σ H _ I h) fun v s1 ⟨x, H1, I1, r1, q1⟩ => ?_)
  refine wpAny_Slice (thn (hl pins s1 σ H1 _ I1 q1) fun vl s2 ⟨l, H2, I2, pl, q2⟩ => thn (hu pins s2 σ H2 _ I2 q2) fun vu s3 ⟨u, H3, I3, pu, q3⟩ => ?_)
  rw [evalPart_none]
  refine wpAny_pure ?_
  have I4 : Inv X pins σ H3 { s3 with heap := s3.heap.push { cls := .type "slice", data := .fields #[vl, vu, .none] } } := I3.kept (t' := s3.toks) fun b ob q => Heap.get?_push_of_some _ q
  obtain ⟨T, id, hT, ht, hg⟩ := hr pins { s3 with heap := s3.heap.push { cls := .type "slice", data := .fields #[vl, vu, .none] } } σ H3 x v vl vu l u s3.heap.objs.size Q I4 r1 (Heap.IsSliceOf.new ..) pl pu q3
  show wpAny (model X.prog X.w) X.A (subscriptTail e (.Slice lo hi none p2) v (.ref s3.heap.objs.size)) (EP X pins σ Q) X.xe { s3 with heap := s3.heap.push { cls := .type "slice", data := .fields #[vl, vu, .none] } }
  exact tail_any (ops := [.ref s3.heap.objs.size, v]) ht hT hg (by with_unfolding_all rfl)

/-- the items of xs[lo:hi] -/
def cutV (xs : List V) (lo hi : Option Int) : List V := (xs.drop (HT.sIx xs.length 0 lo)).take (HT.sIx xs.length xs.length hi - HT.sIx xs.length 0 lo)
theorem cutV_length (xs : List V) (lo hi : Option Int) : (cutV xs lo hi).length ≤ xs.length := by
  unfold cutV
  rw [List.length_take, List.length_drop]
  omega
/-! ### t < u, t + u -/
end
end L2

namespace L2
open PySem PySem.Spec PyProof.Rows

/-! ### places -/
/-- the place that an index of any sign means -/
def ixN (n : Nat) (i : Int) : Option Nat := if 0 ≤ i then (if i < n then some i.toNat else none) else if -(n : Int) ≤ i then some (i + n).toNat else none
def atI {α : Type} (xs : List α) (i : Int) : Option α := (ixN xs.length i).bind fun j => xs[j]?
theorem ixN_seq {n : Nat} {i : Int} {j : Nat} (h : ixN n i = some j) : seqIndex? i n = some j ∧ j < n ∧ -(n : Int) ≤ i ∧ i < n := by
  unfold ixN at h
  by_cases h0 : 0 ≤ i
  · rw [if_pos h0] at h
    by_cases h1 : i < n
    · rw [if_pos h1] at h
      have e : i.toNat = j := Option.some.inj h
      exact ⟨by rw [seqIndex_of h0 h1, e], by omega, by omega, h1⟩
    · rw [if_neg h1] at h; cases h
  · rw [if_neg h0] at h
    by_cases h1 : -(n : Int) ≤ i
    · rw [if_pos h1] at h
      have e : (i + n).toNat = j := Option.some.inj h
      exact ⟨by rw [seqIndex_neg (by omega) h1, e], by omega, h1, by omega⟩
    · rw [if_neg h1] at h; cases h
theorem atI_get {α : Type} {xs : List α} {i : Int} {v : α} (h : atI xs i = some v) : ∃ j, seqIndex? i xs.length = some j ∧ xs[j]? = some v ∧ j < xs.length ∧ -(xs.length : Int) ≤ i ∧ i < xs.length := by
  unfold atI at h
  cases e : ixN xs.length i with
  | none => rw [e] at h; cases h
  | some j =>
    rw [e] at h
    obtain ⟨h1, h2, h3, h4⟩ := ixN_seq e
    exact ⟨j, h1, h, h2, h3, h4⟩
theorem atI_nat {α : Type} {xs : List α} {j : Nat} {v : α} (h : xs[j]? = some v) : atI xs (j : Int) = some v := by
  have hj : j < xs.length := (List.getElem?_eq_some_iff.mp h).1
  have e : ixN xs.length (j : Int) = some j := by
    unfold ixN
    rw [if_pos (by omega), if_pos (by omega)]; simp
  unfold atI; rw [e]; exact h
/-! ### what may be subscripted -/
/-- what stands as an index of a plain subscript -/
def PlainIx (b : Expr) : Prop := ∀ o i, subscripted b false o i = operate [o, i] (getItem o i)
/-- a subscript by values -/
structure IxR (X : Cx) (r : R2) : Prop where
  mk ::
  go :
  ∀ (value slice : Expr) (pins : List (Addr × Obj)) (s : Shared) (σ : St) (H : Hp) (x y : V) (v u : Value) (Q : VK), Inv X pins σ H s → RelV x v → RelV y u → r x y H Q →
    subscripted slice false v u = operate [v, u] (getItem v u) → wpAny (model X.prog X.w) X.A (subscriptTail value slice v u) (EP X pins σ Q) X.xe s
instance {X : Cx} {r : R2} : CoeFun (IxR X r) (fun _ =>
  ∀ (value slice : Expr) (pins : List (Addr × Obj)) (s : Shared) (σ : St) (H : Hp) (x y : V) (v u : Value) (Q : VK), Inv X pins σ H s → RelV x v → RelV y u → r x y H Q →
    subscripted slice false v u = operate [v, u] (getItem v u) → wpAny (model X.prog X.w) X.A (subscriptTail value slice v u) (EP X pins σ Q) X.xe s) := ⟨IxR.go⟩
/-- a call of a builtin's method by values: the receiver, the arguments -/
def MtR (X : Cx) (id : String) (r : V → List V → Hp → VK → Prop) : Prop :=
  ∀ (pins : List (Addr × Obj)) (s : Shared) (σ : St) (H : Hp) (x : V) (xs : List V) (v : Value) (us : List Value) (Q : VK), Inv X pins σ H s → RelV x v → Vals xs us → r x xs H Q →
    wpAny (model X.prog X.w) X.A (call (.builtin id) (v :: us)) (EP X pins σ Q) X.xe s
section
variable {X : Cx} {a b : Expr} {ta tb : TE} {pos : Pos}
theorem IxR.or {r r' : R2} (h : IxR X r) (h' : IxR X r') : IxR X (fun x y H Q => r x y H Q ∨ r' x y H Q) := by
  refine .mk ?_
  intro value slice pins s σ H x y v u Q I rx ry q hs
  rcases q with q | q
  · exact h value slice pins s σ H x y v u Q I rx ry q hs
  · exact h' value slice pins s σ H x y v u Q I rx ry q hs
theorem MtR.or {id : String} {r r' : V → List V → Hp → VK → Prop} (h : MtR X id r) (h' : MtR X id r') : MtR X id (fun x xs H Q => r x xs H Q ∨ r' x xs H Q) := by
  intro pins s σ H x xs v us Q I rx rs q
  rcases q with q | q
  · exact h pins s σ H x xs v us Q I rx rs q
  · exact h' pins s σ H x xs v us Q I rx rs q
/-- a[b] -/
theorem pe_ix {r : R2} (hr : IxR X r) (ha : PE X a ta) (hb : PE X b tb) (hs : PlainIx b) : PE X (.Subscript a b pos) (tOp r ta tb) := by
  refine .mk ?_
  intro pins s σ H Q I h
  exact Subscript_ (binT ha hb I h fun v u s2 x y H2 I2 rx ry q => hr a b pins s2 σ H2 x y v u Q I2 rx ry q (hs _ _))

def rIxL (K : PySem.W.Frag) : R2 := fun x y H Q => ∃ p xs i v, x = .ref p ∧ y = .int i ∧ SqL K H p xs ∧ atI xs i = some v ∧ Q v H
def rIxT (K : PySem.W.Frag) : R2 := fun x y H Q => ∃ p xs i v, x = .ref p ∧ y = .int i ∧ SqT K H p xs ∧ atI xs i = some v ∧ Q v H
def rIxS : R2 := fun x y H Q => ∃ z i c, x = .str z ∧ y = .int i ∧ z.length ≤ sizeLine ∧ atI z.cps.toList i = some c ∧ Q (.str ⟨#[c]⟩) H
theorem ix_list : IxR X (rIxL X.K) := by
  refine .mk ?_
  intro value slice pins s σ H x y v u Q I rx ry h hs
  obtain ⟨p, xs, i, z, rfl, rfl, hq, he, q⟩ := h
  cases rx
  obtain ⟨t, rfl⟩ := ry
  obtain ⟨its, r, pl, hz⟩ := I.list hq
  obtain ⟨j, h1, h2, h3, h4, h5⟩ := atI_get he
  obtain ⟨w, ew, rw'⟩ := r.get h2
  have hl := r.length
  have hn := line63
  have fin : EP X pins σ Q w s := ⟨z, H, I, rw', q⟩
  by_cases h0 : 0 ≤ i
  · have hj : i.toNat = j := by
      rw [seqIndex_of h0 h5] at h1
      exact Option.some.inj h1
    exact item_listR pl.isList h0 (by omega) (by rw [hj]; simpa using ew) fin hs
  · have hj : (i + (its.toArray.size : Int)).toNat = j := by
      rw [seqIndex_neg (by omega) h4] at h1
      rw [List.size_toArray, ← hl]
      exact Option.some.inj h1
    exact subscriptTail_builtinR (x := w) pl.isList.typeIs slot_list_getitem.lookup
      (wpAny_getItem_list_neg (Q := fun r s' => r = w ∧ EP X pins σ Q r s') pl.isList (by omega) (by rw [List.size_toArray] <;> omega) (by omega) (by rw [hj]; simpa using ew) ⟨rfl, fin⟩) hs
theorem ix_tup : IxR X (rIxT X.K) := by
  refine .mk ?_
  intro value slice pins s σ H x y v u Q I rx ry h hs
  obtain ⟨p, xs, i, z, rfl, rfl, hq, he, q⟩ := h
  cases rx
  obtain ⟨t, rfl⟩ := ry
  obtain ⟨its, r, pl, hz⟩ := I.tuple hq
  obtain ⟨j, h1, h2, h3, h4, h5⟩ := atI_get he
  obtain ⟨w, ew, rw'⟩ := r.get h2
  have hl := r.length
  have hn := line63
  have fin : EP X pins σ Q w s := ⟨z, H, I, rw', q⟩
  exact subscriptTail_builtinR (x := w) pl.typeIs slot_tuple_getitem.lookup
    (getItem_tuple (j := j) (Q := fun r s' => r = w ∧ EP X pins σ Q r s') pl (by omega) (by omega) (by rw [List.size_toArray, ← hl]; exact h1) (by simpa using ew) ⟨rfl, fin⟩) hs
theorem ix_str : IxR X rIxS := by
  refine .mk ?_
  intro value slice pins s σ H x y v u Q I rx ry h hs
  obtain ⟨z, i, c, rfl, rfl, hz, he, q⟩ := h
  obtain ⟨t, rfl⟩ := rx
  obtain ⟨t', rfl⟩ := ry
  obtain ⟨j, h1, h2, h3, h4, h5⟩ := atI_get he
  have hl : z.cps.toList.length = z.length := by simp [Str.length]
  rw [hl] at h1 h4 h5
  have hn := line63
  exact tail_any (typeIs_str s z t) slot_str_getitem.lookup (getItem_str (c := c) (by
    have e1 : decide (i < -(2 ^ 63 : Int)) = false := decide_eq_false (by omega)
    have e2 : decide (i ≥ 2 ^ 63) = false := decide_eq_false (by omega)
    rw [e1, e2, Bool.or_false]) (by rw [h1]; simpa using h2) ⟨.str ⟨#[c]⟩, H, I.tok _, ⟨_, rfl⟩, q⟩) hs
/-! ### xs[i] = v, any sign -/
/-- the list's object behind a store -/
theorem mapSeq_set (its : List Value) (n j : Nat) (u : Value) : Obj.mapSeq (·.setIfInBounds j u) { cls := .type "list", data := .seq its.toArray n } = { cls := .type "list", data := .seq (its.set j u).toArray n } := by
  simp [Obj.mapSeq]
theorem Inv.lst {pins : List (Addr × Obj)} {σ : St} {H : Hp} {s : Shared} {p : Addr} {xs : List V} (I : Inv X pins σ H s) (h : H p = some (.lst xs)) :
    ∃ (its : List Value) (n : Nat), Vals xs its ∧ s.heap.get? p = some { cls := .type "list", data := .seq its.toArray n } ∧ xs.length ≤ sizeLine := by
  obtain ⟨z, its, n, r, e⟩ := I.hok p _ h
  exact ⟨its, n, r, e, z⟩
/-- the list at p is written by an update of its object -/
theorem Inv.lstUpd {pins : List (Addr × Obj)} {σ : St} {H : Hp} {s : Shared} {p : Addr} {xs ys : List V} {its its' : List Value} {n n' : Nat} {f : Obj → Obj} (I : Inv X pins σ H s) (h : H p = some (.lst xs))
    (ho : s.heap.get? p = some { cls := .type "list", data := .seq its.toArray n }) (hf : f { cls := .type "list", data := .seq its.toArray n } = { cls := .type "list", data := .seq its'.toArray n' }) (r : Vals ys its') (hz : ys.length ≤ sizeLine) (t : Nat) :
    Inv X pins σ (upd H p (.lst ys)) { s with heap := s.heap.update p f, toks := t } := by
  have e : (s.heap.update p f).get? p = some { cls := .type "list", data := .seq its'.toArray n' } := by
    rw [Heap.get?_update_self f ho (by rw [hf] <;> rfl), hf]
  refine I.write (x := p) (e := p) (by rw [h]; trivial) (.inl rfl) (fun b u hb q => (Heap.get?_update_other _ _ (Ne.symm hb)).trans q) ⟨_, e⟩ ?_
  exact ⟨hz, its', n', r, e⟩
def rSetL : V → V → V → Hp → (Hp → Prop) → Prop := fun o i v H Q => ∃ p xs k j, o = .ref p ∧ i = .int k ∧ H p = some (.lst xs) ∧ ixN xs.length k = some j ∧ Q (upd H p (.lst (xs.set j v)))
theorem set_list : PSet X rSetL := by
  refine .mk ?_
  intro pins s σ H o i v ov iv u Q I ro ri rv h
  obtain ⟨p, xs, k, j, rfl, rfl, hp, hj, q⟩ := h
  cases ro
  obtain ⟨t, rfl⟩ := ri
  obtain ⟨its, n, r, ho, hz⟩ := I.lst hp
  obtain ⟨h1, h2, h3, h4⟩ := ixN_seq hj
  have hl := r.length
  have hn := line63
  have I' : Inv X pins σ (upd H p (.lst (xs.set j v))) { s with heap := s.heap.update p (Obj.mapSeq (·.setIfInBounds j u)) } :=
    I.lstUpd hp ho (mapSeq_set its n j u) (r.set rv j) (by rw [List.length_set]; exact hz) s.toks
  by_cases h0 : 0 ≤ k
  · have hk : k.toNat = j := by
      rw [seqIndex_of h0 h4] at h1
      exact Option.some.inj h1
    exact PySem.W.ki_setAt ho h0 (by omega) (by rw [List.size_toArray, ← hl]; exact h4) (by rw [hk]; exact ⟨_, I', q⟩)
  · have hk : (k + (its.toArray.size : Int)).toNat = j := by
      rw [seqIndex_neg (by omega) h3] at h1
      rw [List.size_toArray, ← hl]
      exact Option.some.inj h1
    exact PySem.W.ki_setBack ho (by omega) (by rw [List.size_toArray, ← hl]; exact h3) (by omega) (by rw [hk]; exact ⟨_, I', q⟩)

/-! ### slices -/
theorem slice_bounds (lo hi : Option Int) (n : Nat) : (sliceBounds lo hi none n).1 = ((HT.sIx n 0 lo : Nat) : Int) ∧ (sliceBounds lo hi none n).2.1 = ((HT.sIx n n hi : Nat) : Int) ∧ (sliceBounds lo hi none n).2.2 = 1 := by
  refine ⟨?_, ?_, rfl⟩
  · cases lo with
    | none => simp [sliceBounds, HT.sIx]
    | some i =>
      simp only [sliceBounds, HT.sIx, Option.getD_none, show (1 : Int) > 0 by decide, if_true]
      by_cases h : i < 0
      · simp only [h, if_true] <;> omega
      · simp only [h, if_false] <;> omega
  · cases hi with
    | none => simp [sliceBounds, HT.sIx]
    | some i =>
      simp only [sliceBounds, HT.sIx, Option.getD_none, show (1 : Int) > 0 by decide, if_true]
      by_cases h : i < 0
      · simp only [h, if_true] <;> omega
      · simp only [h, if_false] <;> omega
theorem slicePick_cut (its : List Value) (lo hi : Option Int) : slicePick its.toArray lo hi none = ((its.drop (HT.sIx its.length 0 lo)).take (HT.sIx its.length its.length hi - HT.sIx its.length 0 lo)).toArray := by
  obtain ⟨h1, h2, h3⟩ := slice_bounds lo hi its.toArray.size
  unfold slicePick
  rw [h1, h2, h3]
  simp only [sliceRange_one, pick_run, List.size_toArray] <;> rfl
/-- xs[lo:hi] of a list: a new list -/
def rSlL (K : PySem.W.Frag) : V → Option Int → Option Int → Hp → VK → Prop := fun x lo hi H Q => ∃ a xs, x = .ref a ∧ SqL K H a xs ∧ ∀ p, H p = none → Q (.ref p) (upd H p (.lst (cutV xs lo hi)))
theorem sl_list : SlR X (rSlL X.K) := by
  refine .mk ?_
  intro pins s σ H x v vl vu lo hi sl Q I rx hs pl pu h
  obtain ⟨a, xs, rfl, hx, q⟩ := h
  cases rx
  obtain ⟨its, r, ht, hz⟩ := I.list hx
  have hlen := r.length
  refine ⟨"list", _, slot_list_getitem.lookup, ht.isList.typeIs, ?_⟩
  refine wpAny_getItem_list_slice ht.isList hs pl pu .none (by simp) ?_ (by rw [List.size_toArray] <;> omega)
  rw [slicePick_cut, ← hlen]
  refine ⟨.ref s.heap.objs.size, _, I.laid (t' := s.toks) (o := .lst (cutV xs lo hi)) (fun b ob q => Heap.get?_push_of_some _ q) (Nat.le_refl _) ?_, rfl, q _ (I.hok.fresh (Nat.le_refl _))⟩
  exact ⟨Nat.le_trans (cutV_length xs lo hi) hz, _, 0, (r.drop (HT.sIx xs.length 0 lo)).take (HT.sIx xs.length xs.length hi - HT.sIx xs.length 0 lo), Heap.get?_push_size _ rfl⟩

/-! ### in, not in: flat items -/
/-! ### len, list(x), tuple(x) of any list or tuple that is read -/
theorem call_len_seq : CallR X (.builtin "len") (fun xs H Q => ∃ p ys, xs = [.ref p] ∧ (SqL X.K H p ys ∨ SqT X.K H p ys) ∧ Q (.int ys.length) H) := by
  refine .mk ?_
  intro pins s σ H xs us Q I r h
  obtain ⟨p, ys, rfl, hq, q⟩ := h
  obtain ⟨u, rfl, rx⟩ := vals1 r
  cases rx
  have hn := line63
  rcases hq with hq | hq
  · obtain ⟨its, r', pl, hz⟩ := I.list hq
    have hlen := r'.length
    exact Calls.call_len_list pl.isList (by simp only [List.size_toArray] <;> omega) ⟨.int ys.length, H, I.tok _, ⟨s.toks + 1, by rw [List.size_toArray, hlen]⟩, q⟩
  · obtain ⟨its, r', pl, hz⟩ := I.tuple hq
    have hlen := r'.length
    exact len_tuple pl (by simp only [List.size_toArray] <;> omega) ⟨.int ys.length, H, I.tok _, ⟨s.toks + 1, by rw [List.size_toArray, hlen]⟩, q⟩
theorem CallR.or {f : Value} {r r' : List V → Hp → VK → Prop} (h : CallR X f r) (h' : CallR X f r') : CallR X f (fun xs H Q => r xs H Q ∨ r' xs H Q) := by
  refine .mk ?_
  intro pins s σ H xs us Q I rs q
  rcases q with q | q
  · exact h pins s σ H xs us Q I rs q
  · exact h' pins s σ H xs us Q I rs q
theorem call_list_of : CallR X (.type "list") (fun xs H Q => ∃ p ys, xs = [.ref p] ∧ (SqL X.K H p ys ∨ SqT X.K H p ys) ∧ ∀ l, H l = none → Q (.ref l) (upd H l (.lst ys))) := by
  refine .mk ?_
  intro pins s σ H xs us Q I r h
  obtain ⟨p, ys, rfl, hq, q⟩ := h
  obtain ⟨u, rfl, rx⟩ := vals1 r
  cases rx
  have fin : ∀ (its : List Value), Vals ys its → ys.length ≤ sizeLine → ∀ (h' : Heap) (c' : Nat), (∀ b o', s.heap.get? b = some o' → h'.get? b = some o') →
      h'.get? s.heap.objs.size = some { cls := .type "list", dict := none, data := .seq its.toArray c', slots := #[] } → EP X pins σ Q (.ref s.heap.objs.size) { s with heap := h' } := fun its r' hz h' c' kp e =>
    ⟨.ref s.heap.objs.size, _, I.laid (t' := s.toks) kp (Nat.le_refl _) (show ObjOk X.prog X.w _ h' _ (.lst ys) from ⟨hz, its, c', r', e⟩), rfl, q _ (I.hok.fresh (Nat.le_refl _))⟩
  rcases hq with hq | hq
  · obtain ⟨its, r', pl, hz⟩ := I.list hq
    have hlen := r'.length
    obtain ⟨o, ho, hc, n, hd⟩ := pl.isList
    exact call_list_seq p (.inl rfl) ho hc hd (fun h' c' kp e => fin its r' hz h' c' kp e) (by simp only [List.size_toArray] <;> omega)
  · obtain ⟨its, r', pl, hz⟩ := I.tuple hq
    have hlen := r'.length
    obtain ⟨o, ho, hc, n, hd⟩ := pl
    exact call_list_seq p (.inr rfl) ho hc hd (fun h' c' kp e => fin its r' hz h' c' kp e) (by simp only [List.size_toArray] <;> omega)
theorem call_tuple_of : CallR X (.type "tuple") (fun xs H Q => ∃ p ys, xs = [.ref p] ∧ ((SqL X.K H p ys ∧ ∀ l, H l = none → Q (.ref l) (upd H l (.tup ys))) ∨ (SqT X.K H p ys ∧ Q (.ref p) H))) := by
  refine .mk ?_
  intro pins s σ H xs us Q I r h
  obtain ⟨p, ys, rfl, h⟩ := h
  obtain ⟨u, rfl, rx⟩ := vals1 r
  cases rx
  rcases h with ⟨hq, q⟩ | ⟨hq, q⟩
  · obtain ⟨its, r', pl, hz⟩ := I.list hq
    have hlen := r'.length
    refine call_tuple_list pl.isList (fun h' kp => ?_) (by simp only [List.size_toArray] <;> omega)
    have I1 : Inv X pins σ H { s with heap := h' } := I.kept (t' := s.toks) kp
    have I2 : Inv X pins σ (upd H h'.objs.size (.tup ys)) { s with heap := h'.push { cls := .type "tuple", data := .seq its.toArray } } :=
      I1.laid (t' := s.toks) (fun b o e => Heap.get?_push_of_some _ e) (Nat.le_refl _) (show ObjOk X.prog X.w _ _ _ (.tup ys) from ⟨hz, its, r', IsTup.new _ _⟩)
    exact ⟨.ref h'.objs.size, _, I2, rfl, q _ (I1.hok.fresh (Nat.le_refl _))⟩
  · obtain ⟨its, r', pl, hz⟩ := I.tuple hq
    exact call_tuple_same pl ⟨.ref p, H, I, rfl, q⟩

/-! ### the call of a builtin's method: o.m(..) -/
/-- the value is of that builtin type -/
def tyV (K : PySem.W.Frag) (T : String) (x : V) (H : Hp) : Prop := match x with
  | .str _ => T = "str"
  | .int _ => T = "int"
  | .ref p => (T = "list" ∧ ∃ xs, SqL K H p xs) ∨ (T = "tuple" ∧ ∃ o, K.lookup p = some o ∧ o.cls = .type "tuple" ∧ o.dict = none) ∨
      (T = "dict" ∧ ((∃ kvs, H p = some (.dK kvs)) ∨ ∃ kvs, H p = some (.dT kvs))) ∨ (T = "set" ∧ ∃ S n, H p = some (.set S n))
  | _ => False
theorem tyV_is {pins : List (Addr × Obj)} {σ : St} {H : Hp} {s : Shared} {T : String} {x : V} {v : Value} (I : Inv X pins σ H s) (r : RelV x v) (ty : tyV X.K T x H) :
    s.TypeIs v T ∧ ∀ a, v = .ref a → ∃ ob, s.heap.get? a = some ob ∧ ob.dict = none := by
  cases x with
  | str z =>
    obtain ⟨t, rfl⟩ := r
    cases (show T = "str" from ty)
    exact ⟨typeIs_str s z t, fun _ e => nomatch e⟩
  | int i =>
    obtain ⟨t, rfl⟩ := r
    cases (show T = "int" from ty)
    exact ⟨typeIs_int s i t, fun _ e => nomatch e⟩
  | ref p =>
    cases r
    rcases ty with ⟨rfl, xs, hq⟩ | ⟨rfl, o, hk, hc, hd⟩ | ⟨rfl, hk⟩ | ⟨rfl, S, n, hk⟩
    · obtain ⟨its, _, pl, _⟩ := I.list hq
      refine ⟨pl.isList.typeIs, fun a e => ?_⟩
      cases e
      obtain ⟨o, n, e, c, hd, _⟩ := pl
      exact ⟨o, e, hd⟩
    · refine ⟨⟨o, I.kIn p o hk, hc⟩, fun a e => ?_⟩
      cases e
      exact ⟨o, I.kIn _ o hk, hd⟩
    · have z : ∃ o, s.heap.get? p = some o ∧ o.ExactDict := by
        rcases hk with ⟨kvs, hk⟩ | ⟨kvs, hk⟩
        · obtain ⟨_, _, _, _, o, _, _, e, ex, _⟩ := I.hok p _ hk
          exact ⟨o, e, ex⟩
        · obtain ⟨_, _, _, _, o, _, _, e, ex, _⟩ := I.hok p _ hk
          exact ⟨o, e, ex⟩
      obtain ⟨o, e, ex⟩ := z
      refine ⟨⟨o, e, ex.1⟩, fun a e2 => ?_⟩
      cases e2
      exact ⟨o, e, ex.2.1⟩
    · obtain ⟨o, _, _, _, e, ex, _⟩ := I.hok p _ hk
      refine ⟨⟨o, e, ex.1⟩, fun a e2 => ?_⟩
      cases e2
      exact ⟨o, e, ex.2.1⟩
  | _ => exact False.elim ty
def tBM0 (K : PySem.W.Frag) (T : String) (r : V → List V → Hp → VK → Prop) (to : TE) : TE := fun σ H Q => to σ H fun x H1 => tyV K T x H1 ∧ r x [] H1 Q
def tBM (K : PySem.W.Frag) (T : String) (r : V → List V → Hp → VK → Prop) (to : TE) (t : TA) : TE := fun σ H Q => to σ H fun x H1 => tyV K T x H1 ∧ t σ H1 fun xs H2 => r x xs H2 Q
variable {o e : Expr} {es : List Expr} {to : TE} {t : TA} {name : Str} {apos cpos : Pos} {T id : String} {r : V → List V → Hp → VK → Prop}
theorem pe_bm0 (pa : PlainAttrs T) (slot : Slot T name id) (hty : typeOf (.builtin id) = pure (.type "method_descriptor")) (hm : MtR X id r) (ho : PE X o to)
    (hbase : attributeBase o name X.env (eval o X.env) = eval o X.env := by rfl) (hline : (apos.endLine == cpos.line) = true := by rfl) : PE X (.Call (.Attribute o name apos) [] [] cpos) (tBM0 X.K T r to) := by
  refine .mk ?_
  intro pins s σ H Q I h
  refine wpAny_Call_method0_late hbase hline (thn (ho pins s σ H _ I h) fun v s1 ⟨x, H1, I1, r1, ty, q1⟩ => ?_)
  obtain ⟨h1, h2⟩ := tyV_is I1 r1 ty
  exact ⟨T, id, pa, slot, hty, h1, h2, Calls.callWith_builtin rfl (PySem.evalArgs_none (hm pins s1 σ H1 x [] v [] Q I1 r1 .nil q1))⟩
theorem pe_bm (pa : PlainAttrs T) (slot : Slot T name id) (hty : typeOf (.builtin id) = pure (.type "method_descriptor")) (hm : MtR X id r) (ho : PE X o to) (ha : PA X (e :: es) t)
    (hbase : attributeBase o name X.env (eval o X.env) = eval o X.env := by rfl)
    (hfew : ((backTo cpos (starEach (e :: es) X.env)).all (fun x => !x.1) && (backToKw cpos (keywordEach [] X.env)).all (fun x => x.1.isSome)
      && decide ((e :: es).length + ([] : List Keyword).length + (if ([] : List Keyword).isEmpty then 0 else 1) < 30)) = true := by rfl)
    (hline : (apos.endLine == cpos.line) = true := by rfl) (hs : starEach (e :: es) X.env = (false, eval e X.env) :: starEach es X.env := by rfl) (hplain : (backTo cpos (starEach es X.env)).any (·.1) = false := by rfl) :
    PE X (.Call (.Attribute o name apos) (e :: es) [] cpos) (tBM X.K T r to t) := by
  refine .mk ?_
  intro pins s σ H Q I h
  refine wpAny_Call_method_late hbase hfew hline rfl (thn (ho pins s σ H _ I h) fun v s1 ⟨x, H1, I1, r1, ty, q1⟩ => ?_)
  obtain ⟨h1, h2⟩ := tyV_is I1 r1 ty
  refine ⟨T, id, pa, slot, hty, h1, h2, ?_⟩
  have hA := ha cpos pins s1 σ H1 _ I1 q1
  rw [hs] at hA ⊢
  refine Calls.callWith_builtin (by show (false || (backTo cpos (starEach es X.env)).any (·.1)) = false; rw [hplain] <;> rfl) (Calls.evalArgs_plain ?_)
  exact thn hA fun us s2 ⟨vs, H2, I2, r2, q2⟩ => hm pins s2 σ H2 x vs v us Q I2 r1 r2 q2
/- xs.append(e), list.index on a module's tuple .. are MtR facts of 06m -/
end
end L2

namespace L2
open PySem PySem.Spec PyProof.Rows

def MtM (X : Cx) (id : String) (r : V → List V → Hp → VK → Prop) : Prop :=
  ∀ (pins : List (Addr × Obj)) (s : Shared) (σ : St) (H : Hp) (x : V) (xs : List V) (v : Value) (us : List Value) (Q : VK), Inv X pins σ H s → RelV x v → Vals xs us → r x xs H Q →
    wpAny (model X.prog X.w) X.A (call (.builtin id) (v :: us)) (EP X pins σ Q) X.xe s

/-! ### lists of values -/
theorem Vals.one : ∀ {x : V} {us : List Value}, Vals [x] us → ∃ u, us = [u] ∧ RelV x u
  | _, _, .cons r .nil => ⟨_, rfl, r⟩
theorem Vals.two : ∀ {x y : V} {us : List Value}, Vals [x, y] us → ∃ u v, us = [u, v] ∧ RelV x u ∧ RelV y v
  | _, _, _, .cons r (.cons q .nil) => ⟨_, _, rfl, r, q⟩
theorem Vals.zero : ∀ {us : List Value}, Vals [] us → us = []
  | _, .nil => rfl
theorem Vals.reverse {xs : List V} {us : List Value} (h : Vals xs us) : Vals xs.reverse us.reverse := by
  induction h with
  | nil => exact .nil
  | cons r t ih => rw [List.reverse_cons, List.reverse_cons]; exact Vals.append ih (.cons r .nil)
section
variable {X : Cx} {pins : List (Addr × Obj)} {σ : St} {H : Hp} {s : Shared} {l b : Addr} {xs ys zs : List V}

/-! ### the two steps: a tracked list is rewritten, a new list is laid -/
theorem Inv.lset {its its' : List Value} {n : Nat} {f : Array Value → Array Value} {t' : Nat} (I : Inv X pins σ H s) (hH : H l = some (.lst xs))
    (e : s.heap.get? l = some { cls := .type "list", data := .seq its.toArray n }) (hf : f its.toArray = its'.toArray) (hv : Vals ys its') (hz : ys.length ≤ sizeLine) :
    Inv X pins σ (upd H l (.lst ys)) { s with heap := s.heap.update l (Obj.mapSeq f), toks := t' } := by
  have q := PySem.IsL.update e f
  rw [hf] at q
  refine I.write (x := l) (e := l) (by rw [hH]; exact trivial) (.inl rfl) (fun b' u hb hu => (Heap.get?_update_other s.heap (Obj.mapSeq f) (Ne.symm hb)).trans hu) ⟨_, q⟩ ?_
  exact ⟨hz, its', _, hv, q⟩
theorem Inv.lnew {its : List Value} {t' : Nat} (I : Inv X pins σ H s) (hv : Vals ys its) (hz : ys.length ≤ sizeLine) :
    Inv X pins σ (upd H s.heap.objs.size (.lst ys)) { s with heap := s.heap.push { cls := .type "list", data := .seq its.toArray }, toks := t' } :=
  I.laid (fun _ _ q => Heap.get?_push_of_some _ q) (Nat.le_refl _) ⟨hz, its, 0, hv, Heap.get?_push_size _ rfl⟩
theorem Inv.fresh (I : Inv X pins σ H s) : H s.heap.objs.size = none := I.hok.fresh (Nat.le_refl _)
theorem Inv.lstM (I : Inv X pins σ H s) (hH : H l = some (.lst xs)) : xs.length ≤ sizeLine ∧ ∃ (its : List Value) (n : Nat), Vals xs its ∧ xs.length = its.length ∧ s.heap.get? l = some { cls := .type "list", data := .seq its.toArray n } := by
  obtain ⟨z, its, n, r, e⟩ := I.hok l _ hH
  exact ⟨z, its, n, r, r.length, e⟩

theorem notLongL {n : Nat} (h : n ≤ sizeLine) : Builtin.List.listTooLong n = false := by
  unfold Builtin.List.listTooLong
  exact decide_eq_false (by omega)
end

section
variable {X : Cx}

/-! ### methods -/
def rAppend : V → List V → Hp → VK → Prop := fun x vs H Q => ∃ l xs y, x = .ref l ∧ vs = [y] ∧ H l = some (.lst xs) ∧ xs.length < sizeLine ∧ Q .non (upd H l (.lst (xs ++ [y])))
theorem mt_append : MtM X "list.append" rAppend := by
  intro pins s σ H x vs v us Q I rx rv h
  obtain ⟨l, xs, y, rfl, rfl, hH, hz, q⟩ := h
  cases rx
  obtain ⟨u, rfl, ru⟩ := rv.one
  obtain ⟨z, its, n, r, hl, e⟩ := I.lstM hH
  refine call_meets F.slot_list_append ⟨_, e, rfl⟩ F.entry_list_append (F.args_list_append_2 _ _) (PySem.list_append l its.toArray n u (by rw [List.size_toArray]; omega)) ⟨e, ?_⟩
  refine ⟨.non, _, I.lset (its' := its ++ [u]) hH e (by simp) (r.append (.cons ru .nil)) ?_, rfl, q⟩
  rw [List.length_append, List.length_singleton]
  omega

def rExtend : V → List V → Hp → VK → Prop := fun x vs H Q => ∃ l b xs zs, x = .ref l ∧ vs = [.ref b] ∧ H l = some (.lst xs) ∧ H b = some (.lst zs) ∧ xs.length + zs.length ≤ sizeLine ∧ Q .non (upd H l (.lst (xs ++ zs)))
theorem mt_extend : MtM X "list.extend" rExtend := by
  intro pins s σ H x vs v us Q I rx rv h
  obtain ⟨l, b, xs, zs, rfl, rfl, hH, hB, hz, q⟩ := h
  cases rx
  obtain ⟨u, rfl, ru⟩ := rv.one
  cases ru
  obtain ⟨z, its, n, r, hl, e⟩ := I.lstM hH
  obtain ⟨z2, its2, n2, r2, hl2, e2⟩ := I.lstM hB
  have hsz : its.toArray.size + its2.toArray.size ≤ sizeLine := by rw [List.size_toArray, List.size_toArray]; omega
  have hlong : ¬ (!its.toArray.isEmpty && Builtin.List.listTooLong (its.toArray.size + its2.toArray.size)) = true := by
    rw [notLongL hsz, Bool.and_false]
    exact Bool.false_ne_true
  refine call_meets F.slot_list_extend ⟨_, e, rfl⟩ F.entry_list_extend (F.args_list_extend_2 _ _)
    (AutoSeq1.list_extend_list_list_0 l its.toArray n b its2.toArray n2 hlong (by rw [List.size_toArray]; omega) (by omega)) ⟨e, e2, ?_⟩
  refine ⟨.non, _, I.lset (its' := its ++ its2) hH e (by simp) (r.append r2) ?_, rfl, q⟩
  rw [List.length_append]
  omega

def rReverse : V → List V → Hp → VK → Prop := fun x vs H Q => ∃ l xs, x = .ref l ∧ vs = [] ∧ H l = some (.lst xs) ∧ Q .non (upd H l (.lst xs.reverse))
theorem mt_reverse : MtM X "list.reverse" rReverse := by
  intro pins s σ H x vs v us Q I rx rv h
  obtain ⟨l, xs, rfl, rfl, hH, q⟩ := h
  cases rx
  have hus := rv.zero
  subst hus
  obtain ⟨z, its, n, r, hl, e⟩ := I.lstM hH
  refine call_meets F.slot_list_reverse ⟨_, e, rfl⟩ F.entry_list_reverse (F.args_list_reverse_1 _) (AutoSeq1.list_reverse_list_0 l its.toArray n (by rw [List.size_toArray]; omega)) ⟨e, ?_⟩
  refine ⟨.non, _, I.lset (its' := its.reverse) hH e (by simp) r.reverse ?_, rfl, q⟩
  rw [List.length_reverse]
  omega

/-! ### list + list, list += list, list * int -/
def rCat : R2 := fun x y H Q => ∃ l b xs zs, x = .ref l ∧ y = .ref b ∧ H l = some (.lst xs) ∧ H b = some (.lst zs) ∧ xs.length + zs.length ≤ sizeLine ∧ ∀ p, H p = none → Q (.ref p) (upd H p (.lst (xs ++ zs)))
theorem op_cat : OpR X (binaryOp .Add) rCat := by
  refine .mk ?_
  intro pins s σ H x y v u Q I rx ry h
  obtain ⟨l, b, xs, zs, rfl, rfl, hH, hB, hz, q⟩ := h
  cases rx
  cases ry
  obtain ⟨z, its, n, r, hl, e⟩ := I.lstM hH
  obtain ⟨z2, its2, n2, r2, hl2, e2⟩ := I.lstM hB
  refine PySem.P.add_list e e2 ?_ (by rw [List.size_toArray, List.size_toArray]; omega)
  have ea : its.toArray ++ its2.toArray = (its ++ its2).toArray := by simp
  rw [ea]
  exact ⟨.ref _, _, I.lnew (t' := s.toks) (r.append r2) (by rw [List.length_append]; omega), rfl, q _ I.fresh⟩
/-! ### del xs[i] -/
end

/-! ### xs[a:b] = ys -/
section
variable {prog : Program} {w : World} {A : Around} {E : Value → Shared → Prop} {s : Shared}
end

section
variable {X : Cx}
end
end L2

namespace Att
open PySem PySem.W PySem.Calls PyProof.Rows

/-! ### the script -/
theorem ints_of_wellAll {P : Params} {h : Heap} : ∀ (ns : List Int) (vs : List Value), WellAll P h vs (ns.map WData.int) → IntsAre vs ns := by
  intro ns
  induction ns with
  | nil =>
    intro vs w
    rw [List.map_nil] at w
    cases w
    exact .nil
  | cons n ns ih =>
    intro vs w
    rw [List.map_cons] at w
    cases w with
    | cons a b =>
      cases a
      exact .cons _ _ (ih _ b)

theorem script_of {l : OpenLaw} {n : Nat} (hn : l.most = some n) {P : Params} {h : Heap} {args : List WData} {vals : List Value}
    (hpre : l.row.toRowW.claim.pre args = true) (hwl : WellAll P h vals args) :
    ∃ a vs ns, vals = [Value.ref a] ∧ args = [WData.list (ns.map WData.int)] ∧ h.get? a = some { cls := .type "list", data := .seq vs.toArray } ∧ IntsAre vs ns ∧ ns.length ≤ n := by
  have hsh : WShape.hasAll [] args [.list .int] = true := (pre_splitW hpre).1
  have hc : l.pre.holds [] { args := args } = true := (pre_splitW hpre).2
  obtain ⟨d, r, rfl, h1, h2⟩ := hasAllW_cons hsh
  obtain rfl := hasAllW_nil h2
  obtain ⟨xs, rfl, h3⟩ := hasW_list h1
  obtain ⟨ns, rfl⟩ := items_int h3
  have hlen : ns.length ≤ n := by
    unfold OpenLaw.pre at hc
    have h4 : (WTm.not (.lt (.lit (.int (n : Int))) (.len (.arg 0)))).holds [] { args := [.list (ns.map .int)] } = true := by
      have h4 := (holds_andW hc).1
      rw [hn] at h4
      exact h4
    have h5 := condW_of h4 (w_not (w_lt w_lit (w_len_list (w_arg rfl))))
    rw [List.length_map] at h5
    refine Nat.le_of_not_lt fun q => ?_
    have q' : (n : Int) < ((ns.length : Nat) : Int) := by omega
    first
      | (rw [decide_eq_true q'] at h5; exact absurd h5 (by decide))
      | (simp at h5; omega)
  cases hwl with
  | cons w1 w2 =>
    cases w2
    cases w1 with
    | list ho hall => exact ⟨_, _, ns, rfl, rfl, ho, ints_of_wellAll ns _ hall, hlen⟩

theorem post_true (l : OpenLaw) (args : List WData) : l.row.toRowW.claim.post args (.bool true) args = true :=
  postW_of (r := l.row.toRowW) (X := (true == true))
    (show WShape.has [] (.bool true) .bool = true by first | rfl | decide | simp [WShape.has, WShape.arms, WShape.armsAll])
    (show (WTm.eq .res (.lit (.bool true))).value [] { args := args, res := some (.bool true), after := args } = some (.bool (true == true)) from w_eq_bool (w_res rfl) w_lit) rfl

/-! ### the attachment: holds_open's last premise (the goal 'hc' behind k_head) from a wpAny of the law's body -/
/-- the same from a codeAny of the CALL (for a layer whose function contracts speak of calls) -/
theorem attach_call {l : OpenLaw} {n : Nat} {q : Program} {loose : List Str} {XP : (Str → Option Value) → Heap → Prop} {YP : World → Heap → Prop} {d : DefRec}
    (hn : l.most = some n) (hdf : d.params.defaults = [])
    (call : ∀ (w : World) (s₀ s₁ : Shared) (mg mb : Str → Option Value) (fa : Addr) (o : Obj) (pm cd doc : Value) (a : Addr) (vs : List Value) (ns : List Int),
      Ground q loose [] XP w s₀ mg mb s₁.heap → YP w s₁.heap →
      s₁.heap.get? fa = some o → o.data = .func (docDef d.name d.params d.body d.scope pm cd doc) → s₁.heap.CodeRec cd d.name → mg d.name = some (.ref fa) →
      s₁.heap.get? a = some { cls := .type "list", data := .seq vs.toArray } → IntsAre vs ns → ns.length ≤ n → s₁.gens = #[] →
      codeAny (model l.prog w) callerA (.call (.ref fa) ⟨[.ref a], []⟩) (fun r s' => r = .ok (.ret (.bool true)) ∧ OldK s₁.heap s'.heap ∧ s'.os = s₁.os ∧ AllBare s'.gens) s₁) :
    WalkO q loose XP YP l.row.toRowW d [] (fun f vs => PySem.call f vs) := by
  intro w s₀ s₁ mg mb G Y fa o pm cd doc dV kV ho hd hcd hD hmg hg args vals as hpre hlay hrd hwl hlo
  obtain rfl : dV = .none := Dflts.none hD hdf
  obtain rfl : kV = .none := Dflts.noKw hD
  obtain ⟨a, vs, ns, rfl, rfl, hobj, hints, hlen⟩ := script_of hn hpre hwl
  refine enter_call (codeAny_mono (call w s₀ s₁ mg mb fa o pm cd doc a vs ns G Y ho (fd_plain hd) hcd hmg hobj hints hlen hg) fun r s' hq => ?_)
  obtain ⟨rfl, h2, h3, h4⟩ := hq
  exact ⟨.inl ⟨.bool true, .bool true, [], rfl, fun _ => rfl, .bool true, post_true l _, fun _ => ⟨List.Pairwise.nil, fun _ hm => (nomatch hm)⟩⟩, h2, h3, h4⟩

/-! ### rules over ANY heap (no ledger) from facts about the written part K: the library's own take a ledger (News) for what they write -/
section
variable {prog : Program} {w : World} {A : Around} {E : Value → Shared → Prop} {s : Shared} {K : Frag}

/-! the whole heap as the ledger: makes every rule that writes through a ledger a rule over any heap -/
def ledger (h : Heap) (L d : Addr) : List (Addr × Obj) := (List.range h.objs.size).filterMap fun a => if a = L ∨ a = d then none else (h.get? a).map fun o => (a, o)
end
end Att

namespace L2
open PySem PySem.Spec PyProof.Rows

theorem vals_ints : ∀ {vs : List Value} {ns : List Int}, IntsAre vs ns → Vals (ns.map V.int) vs
  | _, _, .nil => .nil
  | _, _, .cons n t h => .cons ⟨t, rfl⟩ (vals_ints h)

/-- nothing is tracked but the script, known to the object (or it is an object of the module) -/
def Only (H : Hp) : Prop := ∀ b, H b = none ∨ ∃ o xs, H b = some (.frz o (.lst xs))

/-- THE HEAD: the law's promise, at the heap behind the top. F, the promise of the law's def, may use that base is part of the heap (so K.In base, base.Ns mainGlobals mg stand in Mod) -/
theorem law_call {P : Program} {w : World} {K : PySem.W.Frag} {mg mb : Str → Option Value} {CX : CXT} {k : Nat} {fa a : Addr} {fd : FuncData} {x : Str} {sp : Sp} {s₁ : Shared} {vs : List Value} {ns : List Int}
    (KX : K.In s₁.heap) (hns : s₁.heap.Ns mainGlobals mg) (hb : s₁.heap.Ns builtinsNs mb) (hbb : ∀ x : Str, x ≠ "__name__" → mb x = bootBuiltins x) (hlim : s₁.heap.NoLimit) (hg : s₁.gens = #[])
    (ha : s₁.heap.get? a = some { cls := .type "list", data := .seq vs.toArray }) (hi : IntsAre vs ns) (hl : ns.length ≤ sizeLine) (hr : Room k callerA)
    (F : ∀ base : Heap, K.In base → base.Ns mainGlobals mg → FnOk P w K mg base CX k fa fd [x] sp) (hbind : ∀ (s : Shared) (u : Value), BindsTo s fd ⟨[u], []⟩ [(x, u)])
    (hsp : ∀ H : Hp, Only H → SqL K H a (ns.map V.int) → sp [.ref a] H (fun v _ => v = .bl true) fun _ _ _ => False)
    (hCX : ∀ H e s', CX [] H s₁ (fun _ _ _ => False) e s' → False) :
    codeAny (model P w) callerA (.call (.ref fa) ⟨[.ref a], []⟩) (fun r s' => r = .ok (.ret (.bool true)) ∧ OldK s₁.heap s'.heap ∧ s'.os = s₁.os ∧ AllBare s'.gens) s₁ := by
  have rv := vals_ints hi
  have lenV := hi.length
  -- from an abstract heap in which nothing but the script may be tracked
  have core : ∀ H : Hp, Only H → SqL K H a (ns.map V.int) → HOk P w H s₁.heap → (∀ b, H b ≠ none → b = a) → (H a ≠ none → K.lookup a = none) →
      codeAny (model P w) callerA (.call (.ref fa) ⟨[.ref a], []⟩) (fun r s' => r = .ok (.ret (.bool true)) ∧ OldK s₁.heap s'.heap ∧ s'.os = s₁.os ∧ AllBare s'.gens) s₁ := by
    intro H hO hS hok hA hK
    have base_of : ∀ {b : Addr} {o : Obj}, s₁.heap.get? b = some o → H b = none → (hidT s₁.heap H).get? b = some o := fun e n => hidT_get e n
    have noA : ∀ {b : Addr} {o : Obj} {es : Array DictEntry} {ep : Nat}, s₁.heap.get? b = some o → o.data = .dict es ep → H b = none := fun {b o es ep} e d => by
      cases q : H b with
      | none => rfl
      | some u =>
        have e' : b = a := hA b (by rw [q]; simp)
        subst e'
        rw [ha] at e; cases e
        have d' : Data.seq vs.toArray _ = Data.dict es ep := d
        cases d'
    have nsK : ∀ {b : Addr} {m : Str → Option Value}, s₁.heap.Ns b m → (hidT s₁.heap H).Ns b m := fun {b m} ⟨o, es, ep, e, d, r⟩ => ⟨o, es, ep, base_of e (noA e d), d, r⟩
    have hKb : K.In (hidT s₁.heap H) := fun b o e => base_of (KX b o e) (by
      cases q : H b with
      | none => rfl
      | some u =>
        have e' : b = a := hA b (by rw [q]; simp)
        subst e'
        rw [hK (by rw [q]; simp)] at e; cases e)
    have hM : Mod K mg (hidT s₁.heap H) := ⟨hKb, nsK hns, ⟨mb, nsK hb, hbb⟩, let ⟨mc, h1, h2⟩ := hlim; ⟨mc, nsK h1, h2⟩⟩
    have e0 : Env0 P w K mg (hidT s₁.heap H) callerA [] s₁ H := ⟨rfl, hM, fun b o e => of_hidT e, Nat.le_of_eq (hidT_size _ _), trivial, fun b hb => absurd (show b ∈ ([] : List Addr) from hb) (by simp), hok, .of_eq hg⟩
    refine codeAny_mono ((F _ hKb (nsK hns)).run callerA [] s₁ H ⟨[.ref a], []⟩ [.ref a] [.ref a] _ _ hr e0 (hbind s₁ (.ref a)) (.cons rfl .nil) (hsp H hO hS)) fun r s' h => ?_
    cases r with
    | error e => exact (hCX H e s' h).elim
    | ok fl =>
      cases fl with
      | next => exact False.elim h
      | brk => exact False.elim h
      | cont => exact False.elim h
      | ret u =>
        obtain ⟨v, H', os, bare, un, hok', r', q⟩ := h
        have q' : v = .bl true := q
        subst q'
        obtain rfl : u = Value.bool true := r'
        refine ⟨rfl, OldK.of_keep fun b o e => ?_, os, bare⟩
        cases q : H b with
        | none => exact un.keep b o e q (by intro z; exact absurd (show b ∈ ([] : List Addr) from z) (by simp)) (by simp)
        | some u =>
          rcases hO b with z | ⟨ob, xs, z⟩
          · rw [q] at z; cases z
          · have z2 := un.frzs b ob _ z
            obtain ⟨e1, _⟩ := hok b _ z
            obtain ⟨e2, _⟩ := hok' b _ z2
            rw [e] at e1; cases e1
            exact e2
  cases hk : K.lookup a with
  | some o =>
    -- the script is one of the module's own objects
    have e := KX a o hk
    rw [ha] at e
    cases e
    refine core (fun _ => none) (fun _ => .inl rfl) (.inr ⟨_, vs.toArray, _, hk, rfl, rfl, rfl, by rw [List.size_toArray, lenV]; exact hl, by simpa using rv⟩) (fun b u z => by have z' : (none : Option HO) = some u := z; cases z') (fun b z => absurd rfl z) fun z => absurd rfl z
  | none =>
    refine core (fun b => if b = a then some (.frz { cls := .type "list", data := .seq vs.toArray } (.lst (ns.map V.int))) else none) (fun b => ?_) (.inl (.inr ⟨{ cls := .type "list", data := .seq vs.toArray }, if_pos rfl⟩)) (fun b u z => ?_) (fun b z => ?_) fun _ => hk
    · by_cases hb : b = a
      · exact .inr ⟨_, _, if_pos hb⟩
      · exact .inl (if_neg hb)
    · by_cases hb : b = a
      · have z' := (if_pos hb).symm.trans z
        cases z'
        subst hb
        exact ⟨ha, by rw [List.length_map]; exact hl, vs, _, rv, ha⟩
      · have z' := (if_neg hb).symm.trans z
        cases z'
    · by_cases hb : b = a
      · exact hb
      · exact absurd (if_neg hb) z
end L2

namespace L2
open PySem PySem.Spec PyProof.Rows

abbrev KOf {K : PySem.W.Frag} {h : Heap} (_ : K.In h) : PySem.W.Frag := K

/-- the goal that k_head leaves (case hc), from the law's promise. F gives the function object fd (K's own) once, then the promise over every base -/
theorem walk_of {l : PySem.W.OpenLaw} {n k : Nat} {q : Program} {loose : List Str} {XP : (Str → Option Value) → Heap → Prop} {YP : World → Heap → Prop} {d : DefRec} {K : Params → PySem.W.Frag} {CX : World → CXT} {sp : World → Sp} {x : Str}
    (hn : l.most = some n) (hn2 : n ≤ sizeLine) (hdf : d.params.defaults = []) (hr : Room k callerA)
    (hY : ∀ (w : World) (h : Heap), YP w h → (K w.params).In h)
    (F : ∀ (w : World) (mg : Str → Option Value) (fa : Addr) (h : Heap), (K w.params).In h → h.Ns mainGlobals mg → mg d.name = some (.ref fa) →
      ∃ fd : FuncData, (∀ (s : Shared) (u : Value), BindsTo s fd ⟨[u], []⟩ [(x, u)]) ∧
        ∀ base : Heap, (K w.params).In base → base.Ns mainGlobals mg → FnOk l.prog w (K w.params) mg base (CX w) k fa fd [x] (sp w))
    (hsp : ∀ (w : World) (H : Hp) (a : Addr) (ns : List Int), ns.length ≤ n → Only H → SqL (K w.params) H a (ns.map V.int) → sp w [.ref a] H (fun v _ => v = .bl true) fun _ _ _ => False)
    (hCX : ∀ (w : World) (H : Hp) (s : Shared) (e : Value) (s' : Shared), CX w [] H s (fun _ _ _ => False) e s' → False) :
    PySem.W.WalkO q loose XP YP l.row.toRowW d [] (fun f vs => PySem.call f vs) := by
  refine Att.attach_call hn hdf fun w s₀ s₁ mg mb fa o pm cd doc a vs ns G Y ho hd hcd hmg hobj hints hlen hg => ?_
  have KX := hY w _ Y
  obtain ⟨fd, hb, hF⟩ := F w mg fa _ KX G.T.g hmg
  exact law_call KX G.T.g G.T.b G.T.builtins G.T.nolimit hg hobj hints (Nat.le_trans hlen hn2) hr hF hb (fun H hO hS => hsp w H a ns hlen hO hS) fun H e s' => hCX w H s₁ e s'
end L2

/- THE LAST THEOREM (shape; LID, My.* are yours):
   My.Adr: a structure of the addresses that your layer names (classes, functions); My.Txt K t: a structure (Prop) of the equations over K;
   My.txt_mk : {K} {implicit addresses ..} (e1 : nsIn K mainGlobals "law" = some (some (.ref f))) (e2 : K.lookup f = some ⟨oc, od, .func (fnOf "law" "law" params body scope dV kV doc pm an cdv ct), sl⟩) (e3 : codeIn K cdv "law" = true) .. : ∃ t, My.Txt K t

set_option maxRecDepth 100000 in
set_option maxHeartbeats 0 in
theorem PySem.Challenge.cw_LID_holds : PySem.Challenge.rw_LID.Holds := by
  w_on; o_law; k_head; (case hw => w_witness2)
  k_fill
  refine L2.walk_of (l := PySem.Challenge.rw_LID) (n := 63) (k := 40) (x := "script") (CX := fun w => ..) (sp := fun _ => My.sp_law) rfl (by decide) rfl ⟨rfl, by decide, by decide⟩ (fun w h Y => PySem.W.kIn_of Y) ?F ?S ?C
  case F =>
    intro w mg fa h KX G hmg
    have T : ∃ t, My.Txt (L2.KOf KX) t := by
      dsimp only [L2.KOf]                          -- K must stand as «<heap const> w.params» for k_is
      refine' My.txt_mk ?e1 ?e2 ?e3 ..
      (case e1 => PySem.W.k_is)                    -- in the order: a name -> its address -> its object -> its parts
      (case e2 => PySem.W.k_is)
      ..
    obtain ⟨t, T⟩ := T
    have e0 := hmg.symm.trans (PySem.W.mg_of KX G T.law)
    cases e0                                       -- fa is the law's own address
    exact ⟨_, fun s u => .of_eq rfl, fun base kb nb => My.law_fn T kb nb⟩     -- if «.of_eq rfl» comes too early: refine' ⟨_, ?b, fun base kb nb => My.law_fn T kb nb⟩; exact fun s u => .of_eq rfl
  case S => exact fun w H a ns hl hO hS => ..
  case C => exact ..
(the tactic k_is has no namespace: write k_is) -/

/-! SHORT WORDS over the layer: a def of the text, its body, what a loop and a test want. -/
namespace L2
open PySem PySem.Spec PyProof.Rows

/-! ### the text by places -/
def defArgs (s : Stmt) : Arguments := match s with
  | .FunctionDef _ a _ _ _ _ _ _ _ _ => a
  | _ => { posonlyargs := [], args := [], vararg := none, kwonlyargs := [], kw_defaults := [], kwarg := none, defaults := [] }
def defBody (s : Stmt) : List Stmt := match s with
  | .FunctionDef _ _ b _ _ _ _ _ _ _ => b
  | _ => []
def defScope (s : Stmt) : Scope := match s with
  | .FunctionDef _ _ _ _ _ _ sc _ _ _ => sc
  | _ => { kind := .function, names := [], isGenerator := false, isCoroutine := false }

/-! ### no exception leaves a def -/
abbrev CX0 : CXT := fun _ _ _ _ _ _ => False
abbrev E0 : XK := fun _ _ _ => False
theorem pass0 {X : Cx} : Passes CX0 X E0 := fun _ _ _ _ _ _ _ h => h.elim

/-! ### a def (or method) of the text as it stands behind the top -/
structure Fun (K : PySem.W.Frag) (x qual : Str) (st : Stmt) (f : Addr) (fd : FuncData) : Prop where
  ex : ∃ (oc : Value) (od : Option Addr) (kV doc pm : Value) (an : Option Addr) (cdv ct : Value) (osl : Array (Option Value)),
    fd = PySem.W.fnOf x qual (defArgs st) (defBody st) (defScope st) .none kV doc pm an cdv ct ∧ K.lookup f = some ⟨oc, od, .func fd, osl⟩ ∧ PySem.W.codeIn K cdv qual = true
  kp : PySem.W.keepIn K (.ref f) = true
section
variable {P : Program} {w : World} {K : PySem.W.Frag} {mg : Str → Option Value} {base : Heap}
/-- THE RULE for a def: its body as a term of rules, and the reading of that term -/
theorem Fun.ok {x qual : Str} {st : Stmt} {f : Addr} {fd : FuncData} {N ps : List Str} {k : Nat} {sp : Sp} (F : Fun K x qual st f fd) (S : FnScope N ps (defScope st)) (len : ∀ vs H Q E, sp vs H Q E → vs.length = ps.length)
    (hbody : ∀ (cdv : Value) (A : Around) (outer : List Env) (s : Shared) (H : Hp) (vs : List V) (Q : VK) (E : XK), Room k (A.deeper (envOfC qual (defScope st) s.heap.objs.size f cdv)) → sp vs H Q E →
      ∃ t, PSs (cxOf CX0 P w K mg base N qual (defScope st) f cdv A outer s H E).nox (defBody st) t ∧ t { nx := fun _ H' => Q .non H', rt := Q } (start N vs) H) : FnOk P w K mg base CX0 (k + 1) f fd ps sp := by
  obtain ⟨oc, od, kV, doc, pm, an, cdv, ct, osl, rfl, lk, hcd⟩ := F.ex
  refine fn_of lk hcd S len fun A outer s H vs Q E hr hsp => ?_
  obtain ⟨t, h, q⟩ := hbody cdv A outer s H vs Q E hr hsp
  exact ⟨t, h.nox, q⟩
/-- how its arguments bind (no defaults): h is «fun _ _ _ _ _ _ us hl => match us, hl with | [_, _], _ => rfl», one _ a parameter -/
theorem Fun.binds {x qual : Str} {st : Stmt} {f : Addr} {fd : FuncData} {ps : List Str} (F : Fun K x qual st f fd)
    (h : ∀ (kV doc pm : Value) (an : Option Addr) (cdv ct : Value) (us : List Value), us.length = ps.length → bindArgs (PySem.W.fnOf x qual (defArgs st) (defBody st) (defScope st) .none kV doc pm an cdv ct) ⟨us, []⟩ = pure (ps.zip us)) : Binds K fd ps [] := by
  obtain ⟨oc, od, kV, doc, pm, an, cdv, ct, osl, rfl, lk, hcd⟩ := F.ex
  exact .all (h kV doc pm an cdv ct)
theorem fun_mk {x qual : Str} {st : Stmt} {f : Addr} {oc : Value} {od an : Option Addr} {osl : Array (Option Value)} {kV doc pm cdv ct : Value} (l : K.lookup f = some ⟨oc, od, .func (PySem.W.fnOf x qual (defArgs st) (defBody st) (defScope st) .none kV doc pm an cdv ct), osl⟩)
    (c : PySem.W.codeIn K cdv qual = true) (k : PySem.W.keepIn K (.ref f) = true) : Fun K x qual st f (PySem.W.fnOf x qual (defArgs st) (defBody st) (defScope st) .none kV doc pm an cdv ct) := ⟨⟨oc, od, kV, doc, pm, an, cdv, ct, osl, rfl, l, c⟩, k⟩
end
theorem small1000 {n : Nat} (h : n ≤ 1000) : n < sizeLine := Nat.lt_of_le_of_lt h (by decide)

/-! ### expressions in short: the name that stands in the i-th slot -/
section
variable {X : Cx}
theorem pv (i : Nat) {x : Str} {pos : Pos} (hN : X.N[i]? = some x := by rfl) (hv : Vis X.env.scope x := by first | exact Or.inl rfl | exact Or.inr (Or.inl rfl) | exact Or.inr (Or.inr rfl)) (hd : (x == ("__debug__" : Str)) = false := by decide)
    (hcd : (x == ("__classdict__" : Str)) = false := by decide) : PE X (.Name x pos) (tVar i) := pe_var hN hv hd hcd
end

/-! ### tests -/
/-! ### heaps -/
/-- all that was tracked is as it was -/
def Same (H H' : Hp) : Prop := ∀ b o, H b = some o → H' b = some o
theorem Same.refl (H : Hp) : Same H H := fun _ _ h => h
theorem Same.trans {H H1 H2 : Hp} (a : Same H H1) (b : Same H1 H2) : Same H H2 := fun c o h => b c o (a c o h)
theorem Same.free {H H' : Hp} (e : Same H H') {l : Addr} (h : H' l = Option.none) : H l = Option.none := by
  cases q : H l with
  | none => rfl
  | some o =>
    rw [e l o q] at h
    cases h
theorem Same.seq {K : PySem.W.Frag} {H H' : Hp} {a : Addr} {xs : List V} (e : Same H H') (h : SqL K H a xs) : SqL K H' a xs := by
  rcases h with (h | ⟨o, h⟩) | h
  · exact .inl (.inl (e _ _ h))
  · exact .inl (.inr ⟨o, e _ _ h⟩)
  · exact .inr h

end L2
namespace L2
open PySem PySem.Spec PyProof.Rows

/-! ### lists of pairs as tables -/
section
variable {κ : Type} [DecidableEq κ]
def valV (kvs : List (κ × V)) (k : κ) : Option V := (kvs.find? fun kv => decide (kv.1 = k)).map (·.2)
/-- in its place, or at the end -/
def putK (kvs : List (κ × V)) (k : κ) (v : V) : List (κ × V) :=
  if (kvs.any fun kv => decide (kv.1 = k)) = true then kvs.map (fun kv => if kv.1 = k then (kv.1, v) else kv) else kvs ++ [(k, v)]
def dropK (kvs : List (κ × V)) (k : κ) : List (κ × V) := kvs.filter fun kv => decide (kv.1 ≠ k)

theorem valV_pos {p : κ × V} {r : List (κ × V)} {k : κ} (e : p.1 = k) : valV (p :: r) k = some p.2 := by simp [valV, List.find?_cons, e]
theorem valV_neg {p : κ × V} {r : List (κ × V)} {k : κ} (e : ¬ p.1 = k) : valV (p :: r) k = valV r k := by simp [valV, List.find?_cons, e]
theorem valV_any (k : κ) : ∀ kvs : List (κ × V), (kvs.any fun kv => decide (kv.1 = k)) = (valV kvs k).isSome
  | [] => rfl
  | p :: r => by
    rw [List.any_cons]
    by_cases e : p.1 = k
    · simp only [valV_pos e, decide_eq_true e, Bool.true_or, Option.isSome_some]
    · rw [valV_neg e, decide_eq_false e, Bool.false_or]; exact valV_any k r
theorem RelO.isSome_eq {o : Option V} {u : Option Value} (r : RelO o u) : o.isSome = u.isSome := by
  cases o with
  | none => cases u with
    | none => rfl
    | some _ => exact (show False from r).elim
  | some _ => cases u with
    | none => exact (show False from r).elim
    | some _ => rfl
theorem RelO.getD {o : Option V} {u : Option Value} {d : V} {d' : Value} (r : RelO o u) (rd : RelV d d') : RelV (o.getD d) (u.getD d') := by
  cases o with
  | none => cases u with
    | none => exact rd
    | some _ => exact (show False from r).elim
  | some _ => cases u with
    | none => exact (show False from r).elim
    | some _ => exact r

/-- raw tables of the same keys -/
theorem KV.val {kvs : List (κ × V)} {vs : List (κ × Value)} (r : KV kvs vs) (k : κ) : RelO (valV kvs k) (valueAt vs k) := by
  unfold KV at r
  induction r with
  | nil => exact True.intro
  | @cons p q ps qs h t ih =>
    obtain ⟨h1, h2⟩ := h
    by_cases e : p.1 = k
    · have e' : q.1 = k := h1.symm.trans e
      have b : valueAt (q :: qs) k = some q.2 := by simp [valueAt, List.find?_cons, e']
      rw [valV_pos e, b]; exact h2
    · have e' : ¬ q.1 = k := fun z => e (h1.trans z)
      have b : valueAt (q :: qs) k = valueAt qs k := by simp [valueAt, List.find?_cons, e']
      rw [valV_neg e, b]; exact ih
theorem KV.any {kvs : List (κ × V)} {vs : List (κ × Value)} (r : KV kvs vs) (k : κ) : (kvs.any fun kv => decide (kv.1 = k)) = vs.any fun kv => decide (kv.1 = k) := by
  unfold KV at r
  induction r with
  | nil => rfl
  | cons h t ih => rw [List.any_cons, List.any_cons, ih, h.1]
theorem KV.repl {kvs : List (κ × V)} {vs : List (κ × Value)} (r : KV kvs vs) (k : κ) {y : V} {u : Value} (ry : RelV y u) :
    KV (kvs.map fun kv => if kv.1 = k then (kv.1, y) else kv) (vs.map fun kv => if kv.1 = k then (kv.1, u) else kv) := by
  unfold KV at r ⊢
  induction r with
  | nil => exact .nil
  | @cons p q ps qs h t ih =>
    rw [List.map_cons, List.map_cons]
    refine .cons ?_ ih
    obtain ⟨h1, h2⟩ := h
    by_cases e : p.1 = k
    · rw [if_pos e, if_pos (h1.symm.trans e)]; exact ⟨h1, ry⟩
    · rw [if_neg e, if_neg (fun z => e (h1.trans z))]; exact ⟨h1, h2⟩
theorem KV.put {kvs : List (κ × V)} {vs : List (κ × Value)} (r : KV kvs vs) (k : κ) {y : V} {u : Value} (ry : RelV y u) : KV (putK kvs k y) (stored vs k u) := by
  unfold putK stored
  rw [r.any k]
  by_cases e : (vs.any fun kv => decide (kv.1 = k)) = true
  · rw [if_pos e, if_pos e]; exact r.repl k ry
  · rw [if_neg e, if_neg e]; exact Paired.snoc r ⟨rfl, ry⟩
theorem KV.drop {kvs : List (κ × V)} {vs : List (κ × Value)} (r : KV kvs vs) (k : κ) : KV (dropK kvs k) (without vs k) := by
  unfold KV at r ⊢
  unfold dropK without
  induction r with
  | nil => exact .nil
  | @cons p q ps qs h t ih =>
    obtain ⟨h1, h2⟩ := h
    rw [List.filter_cons, List.filter_cons]
    by_cases e : p.1 = k
    · have a : ¬ decide (p.1 ≠ k) = true := by simp [e]
      have b : ¬ decide (q.1 ≠ k) = true := by simp [h1.symm.trans e]
      rw [if_neg a, if_neg b]; exact ih
    · have e' : ¬ q.1 = k := fun z => e (h1.trans z)
      have a : decide (p.1 ≠ k) = true := by simp [e]
      have b : decide (q.1 ≠ k) = true := by simp [e']
      rw [if_pos a, if_pos b]; exact .cons ⟨h1, h2⟩ ih
theorem KV.keys {kvs : List (κ × V)} {vs : List (κ × Value)} (r : KV kvs vs) : kvs.map (·.1) = vs.map (·.1) := by
  unfold KV at r
  induction r with
  | nil => rfl
  | cons h t ih => rw [List.map_cons, List.map_cons, ih, h.1]
theorem KV.length {kvs : List (κ × V)} {vs : List (κ × Value)} (r : KV kvs vs) : kvs.length = vs.length := Paired.length r
end


/-! ### a tracked dict, its keys ints and texts or tuples of these -/
/-- raw entries of a dict with tuple keys -/
abbrev KT (H : Hp) : List (List Key × V) → List (List Key × Addr × Value) → Prop := Paired fun p q => p.1 = q.1 ∧ H q.2.1 = some (.tup (p.1.map kV)) ∧ RelV p.2 q.2.2
theorem KT.val {H : Hp} {kvs : List (List Key × V)} {xs : List (List Key × Addr × Value)} (r : KT H kvs xs) (k : List Key) : RelO (valV kvs k) ((atKey xs k).map (·.2)) := by
  induction r with
  | nil => exact True.intro
  | @cons p q ps qs h t ih =>
    obtain ⟨h1, _, h2⟩ := h
    by_cases e : p.1 = k
    · have e' : q.1 = k := h1.symm.trans e
      have b : atKey (q :: qs) k = some q.2 := by simp [atKey, List.find?_cons, e']
      rw [valV_pos e, b]; exact h2
    · have e' : ¬ q.1 = k := fun z => e (h1.trans z)
      have b : atKey (q :: qs) k = atKey qs k := by simp [atKey, List.find?_cons, e']
      rw [valV_neg e, b]; exact ih
theorem KT.repl {H : Hp} {kvs : List (List Key × V)} {xs : List (List Key × Addr × Value)} (r : KT H kvs xs) (k : List Key) {y : V} {u : Value} (ry : RelV y u) :
    KT H (kvs.map fun kv => if kv.1 = k then (kv.1, y) else kv) (xs.map (putAt k u)) := by
  induction r with
  | nil => exact .nil
  | @cons p q ps qs h t ih =>
    rw [List.map_cons, List.map_cons]
    refine .cons ?_ ih
    obtain ⟨h1, h2, h3⟩ := h
    unfold putAt
    by_cases e : p.1 = k
    · rw [if_pos e, if_pos (h1.symm.trans e)]; exact ⟨h1, h2, ry⟩
    · rw [if_neg e, if_neg (fun z => e (h1.trans z))]; exact ⟨h1, h2, h3⟩
theorem KT.put {H : Hp} {kvs : List (List Key × V)} {xs : List (List Key × Addr × Value)} (r : KT H kvs xs) (k : List Key) {b : Addr} {y : V} {u : Value} (hb : H b = some (.tup (k.map kV))) (ry : RelV y u) :
    KT H (putK kvs k y) (storedH xs k b u) := by
  have e : (kvs.any fun kv => decide (kv.1 = k)) = (atKey xs k).isSome := by
    rw [valV_any, (r.val k).isSome_eq, Option.isSome_map]
  unfold putK storedH
  rw [e]
  by_cases q : (atKey xs k).isSome = true
  · rw [if_pos q, if_pos q]; exact r.repl k ry
  · rw [if_neg q, if_neg q]; exact Paired.snoc r ⟨rfl, hb, ry⟩
theorem KT.keeps {H H' : Hp} {kvs : List (List Key × V)} {xs : List (List Key × Addr × Value)} (r : KT H kvs xs) (ht : ∀ b ys, H b = some (.tup ys) → H' b = some (.tup ys)) : KT H' kvs xs :=
  Paired.mapP r fun _ _ z => ⟨z.1, ht _ _ z.2.1, z.2.2⟩

section
variable {P : Program} {w : World} {H : Hp} {h : Heap} {a : Addr}
end

/-- what the dict at a holds at the key y -/
def DGet (H : Hp) (a : Addr) (y : V) (r : Option V) : Prop :=
  (∃ kvs k, Rd H a (.dK kvs) ∧ y = kV k ∧ r = valV kvs k) ∨ ∃ kvs k b, Rd H a (.dT kvs) ∧ y = .ref b ∧ H b = some (.tup (k.map kV)) ∧ r = valV kvs k
/-- the heap behind a[y] = v -/
def DPut (H : Hp) (a : Addr) (y v : V) (H' : Hp) : Prop :=
  (∃ kvs k, H a = some (.dK kvs) ∧ y = kV k ∧ kvs.length < sizeLine ∧ H' = upd H a (.dK (putK kvs k v))) ∨
  ∃ kvs k b, H a = some (.dT kvs) ∧ y = .ref b ∧ H b = some (.tup (k.map kV)) ∧ kvs.length < sizeLine ∧ H' = upd H a (.dT (putK kvs k v))
theorem DGet.k {H : Hp} {a : Addr} {kvs : List (Key × V)} {k : Key} (e : H a = some (.dK kvs)) : DGet H a (kV k) (valV kvs k) := .inl ⟨kvs, k, .inl e, rfl, rfl⟩
theorem DGet.t {H : Hp} {a b : Addr} {kvs : List (List Key × V)} {k : List Key} (e : H a = some (.dT kvs)) (eb : H b = some (.tup (k.map kV))) : DGet H a (.ref b) (valV kvs k) := .inr ⟨kvs, k, b, .inl e, rfl, eb, rfl⟩
theorem DPut.k {H : Hp} {a : Addr} {kvs : List (Key × V)} {k : Key} {v : V} (e : H a = some (.dK kvs)) (hl : kvs.length < sizeLine) : DPut H a (kV k) v (upd H a (.dK (putK kvs k v))) := .inl ⟨kvs, k, e, rfl, hl, rfl⟩
theorem DPut.t {H : Hp} {a b : Addr} {kvs : List (List Key × V)} {k : List Key} {v : V} (e : H a = some (.dT kvs)) (eb : H b = some (.tup (k.map kV))) (hl : kvs.length < sizeLine) :
    DPut H a (.ref b) v (upd H a (.dT (putK kvs k v))) := .inr ⟨kvs, k, b, e, rfl, eb, hl, rfl⟩


section
variable {X : Cx} {pins : List (Addr × Obj)} {σ : St} {H : Hp} {s : Shared} {a : Addr} {y v : V} {u r : Value} {o : Option V} {A : Around} {E : Value → Shared → Prop}

end

section
variable {X : Cx} {pins : List (Addr × Obj)} {σ : St} {H : Hp} {s : Shared} {a : Addr} {kvs : List (Key × V)} {k : Key} {u : Value} {A : Around} {E : Value → Shared → Prop}
end


/-! ### readings and rules -/
section
variable {X : Cx} {o i e value : Expr} {pos pos' tpos : Pos} {td ty tv : TE}
end


/-! ### displays -/
section
variable {X : Cx} {pos : Pos}
end

/-! ### methods -/
/-- a method call o.m(e) of a built-in, with one argument: what must be seen of the text -/
structure M1 (X : Cx) (o : Expr) (m : Str) (apos : Pos) (e : Expr) (cpos : Pos) : Prop where
  base : attributeBase o m X.env (eval o X.env) = eval o X.env
  few : ((backTo cpos (starEach [e] X.env)).all (fun x => !x.1) && (backToKw cpos (keywordEach [] X.env)).all (fun x => x.1.isSome)
    && decide (([e] : List Expr).length + ([] : List Keyword).length + (if ([] : List Keyword).isEmpty then 0 else 1) < 30)) = true
  line : (apos.endLine == cpos.line) = true
  trees : backTo cpos (starEach [e] X.env) = [(false, eval e X.env)]
structure M2 (X : Cx) (o : Expr) (m : Str) (apos : Pos) (e f : Expr) (cpos : Pos) : Prop where
  base : attributeBase o m X.env (eval o X.env) = eval o X.env
  few : ((backTo cpos (starEach [e, f] X.env)).all (fun x => !x.1) && (backToKw cpos (keywordEach [] X.env)).all (fun x => x.1.isSome)
    && decide (([e, f] : List Expr).length + ([] : List Keyword).length + (if ([] : List Keyword).isEmpty then 0 else 1) < 30)) = true
  line : (apos.endLine == cpos.line) = true
  trees : backTo cpos (starEach [e, f] X.env) = [(false, eval e X.env), (false, eval f X.env)]

section
variable {X : Cx} {pins : List (Addr × Obj)} {σ : St} {H : Hp} {s : Shared} {a : Addr} {y d : V} {u r : Value} {o : Option V} {A : Around} {E : Value → Shared → Prop}
end

section
variable {X : Cx} {o e f : Expr} {apos cpos : Pos} {td ty tx : TE}
end

/-! ### dict(d): a copy -/
section
variable {X : Cx} {pins : List (Addr × Obj)} {σ : St} {H : Hp} {s : Shared} {a : Addr} {kvs : List (Key × V)} {A : Around} {E : Value → Shared → Prop}
end


section
variable {X : Cx} {pins : List (Addr × Obj)} {σ : St} {H : Hp} {s : Shared} {a : Addr} {y : V} {u : Value} {A : Around} {E : Value → Shared → Prop}
end
end L2
set_option maxHeartbeats 4000000
namespace L2
open PySem PySem.Spec PyProof.Rows
/-! a list comprehension of one clause, whose target is a name: its block is a context of its own -/
/-- the cells that the block takes along -/
def clStep (env : Env) (cs : List (Str × Addr)) (y : Str × NameKind) : List (Str × Addr) :=
  if y.2 == .free then (match env.cells.lookup y.1 with | some c => (y.1, c) :: cs | none => cs) else cs
def clOf (sc : Scope) (env : Env) : List (Str × Addr) := sc.names.foldl (clStep env) []
theorem cl_sound {env : Env} : ∀ (ns : List (Str × NameKind)) (acc : List (Str × Addr)), (∀ y c, acc.lookup y = some c → env.cells.lookup y = some c) → ∀ y c, (ns.foldl (clStep env) acc).lookup y = some c → env.cells.lookup y = some c
  | [], acc, h, y, c, e => h y c e
  | n :: ns, acc, h, y, c, e => by
    refine cl_sound ns (clStep env acc n) (fun z d q => ?_) y c e
    unfold clStep at q
    split at q
    · split at q
      · rename_i c' hc'
        rw [List.lookup_cons] at q
        split at q
        · rename_i hz
          have hz' : z = n.1 := by simpa using hz
          cases q
          rw [hz']; exact hc'
        · exact h z d q
      · exact h z d q
    · exact h z d q
theorem clOf_sound {sc : Scope} {env : Env} {y : Str} {c : Addr} (e : (clOf sc env).lookup y = some c) : env.cells.lookup y = some c :=
  cl_sound sc.names [] (fun _ _ q => by simp at q) y c e
theorem cl_keep {env : Env} {y : Str} {c : Addr} (hc : env.cells.lookup y = some c) : ∀ (ns : List (Str × NameKind)) (acc : List (Str × Addr)), acc.lookup y = some c → (ns.foldl (clStep env) acc).lookup y = some c
  | [], acc, h => h
  | n :: ns, acc, h => by
    refine cl_keep hc ns (clStep env acc n) ?_
    unfold clStep
    split
    · split
      · rename_i c' hc'
        rw [List.lookup_cons]
        split
        · rename_i hz
          have hz' : y = n.1 := by simpa using hz
          rw [← hz', hc] at hc'
          exact hc'.symm
        · exact h
      · exact h
    · exact h
theorem cl_has {env : Env} {y : Str} {c : Addr} (hc : env.cells.lookup y = some c) : ∀ (ns : List (Str × NameKind)) (acc : List (Str × Addr)), (y, NameKind.free) ∈ ns → (ns.foldl (clStep env) acc).lookup y = some c
  | [], _, h => by simp at h
  | n :: ns, acc, h => by
    rcases List.mem_cons.mp h with e | h
    · subst e
      refine cl_keep hc ns _ ?_
      unfold clStep
      simp [hc]
    · exact cl_has hc ns _ h
theorem relabel_mem {sc : Scope} {env : Env} {x : Str} {k' : NameKind} (h : (relabel sc env).names.lookup x = some k') : ∃ k, (x, k) ∈ sc.names ∧ (k' = k ∨ (k = .free ∧ k' = .cell)) := by
  have m := PySem.mem_of_lookup h
  unfold relabel at m
  obtain ⟨⟨n, k⟩, hm, e⟩ := List.mem_map.mp m
  dsimp only at e
  split at e
  · rename_i hc
    injection e with e1 e2
    subst e1
    refine ⟨k, hm, .inr ⟨?_, e2.symm⟩⟩
    have : (k == NameKind.free) = true := by
      cases hk : (k == NameKind.free) with
      | true => rfl
      | false => rw [hk] at hc; simp at hc
    exact beq_iff_eq.mp this
  · injection e with e1 e2
    subst e1 e2
    exact ⟨k, hm, .inl rfl⟩
theorem relabel_free {env : Env} {x : Str} (hf : env.scope.kind = .function) (hk : env.kindOf x = some .cell) : ∀ (ns : List (Str × NameKind)), ns.lookup x = some .free →
    (ns.map fun (y : Str × NameKind) => if (y.2 == .free && env.scope.kind == .function && env.kindOf y.1 == some .cell) then (y.1, NameKind.cell) else (y.1, y.2)).lookup x = some .cell
  | [], h => by simp at h
  | (n, k) :: r, h => by
    have ih := relabel_free hf hk r
    rw [List.map_cons]
    cases hx : x == n with
    | true =>
      have e : x = n := by simpa using hx
      subst e
      simp only [List.lookup_cons, beq_self_eq_true] at h
      cases h
      dsimp only
      rw [if_pos (by simp [hf, hk])]
      simp [List.lookup_cons]
    | false =>
      simp only [List.lookup_cons, hx] at h
      dsimp only
      split
      · simp only [List.lookup_cons, hx]; exact ih h
      · simp only [List.lookup_cons, hx]; exact ih h

/-- the block's context: fp the iterator's objects, s and H as they stand where its frame is made -/
def cxC (X : Cx) (N' : List Str) (sc : Scope) (fp : List Addr) (s : Shared) (H : Hp) : Cx where
  prog := X.prog
  w := X.w
  K := X.K
  mg := X.mg
  base := X.base
  A := X.A
  N := N'
  s₀ := s
  H₀ := H
  env := compEnvC sc (clOf sc X.env) s.heap.objs.size X.env
  outer := X.stack
  stack := X.stack
  ex := fp
  fn := fun _ => false
  calm := X.calm
  pn := []
  xe := fun _ _ => False

/-- what is asked of the block's scope: N' = the target, then what it captures, which stands at the places js of the def's names -/
structure CSc (X : Cx) (N' : List Str) (js : List Nat) (sc : Scope) : Prop where
  kind : sc.kind = .function
  nocell : ∀ y ∈ sc.names, y.2 ≠ .cell
  names : ∀ y ∈ sc.names, y.2 = .local → sc.names.lookup y.1 = some .local
  clos : closureFor sc X.env = pure (clOf sc X.env)
  all : (sc.names.all fun y => y.2 != .free || (X.env.cells.lookup y.1).isSome) = true
  len : N'.length = js.length + 1
  cap : ∀ (i j : Nat), js[i]? = some j → N'[i + 1]? = X.N[j]?
  capk : ∀ y ∈ N'.tail, X.env.kindOf y = some .cell ∧ sc.names.lookup y = some .free
/-- the block's names at the start of a turn -/
def capS (js : List Nat) (σ : St) : St := js.map fun j => (σ[j]?).join

theorem inv_comp {X : Cx} {pins : List (Addr × Obj)} {σ : St} {H : Hp} {s : Shared} {fp : List Addr} {N' : List Str} {js : List Nat} {sc : Scope} {h1 : Heap} {tk : Nat} (I : Inv X pins σ H s) (hf : ∀ b ∈ fp, FpOk X pins H b) (hlt : ∀ b ∈ fp, b < s.heap.objs.size)
    (S : CSc X N' js sc) (hn : h1.Ns s.heap.objs.size fun _ => none) (hk : ∀ b o, s.heap.get? b = some o → h1.get? b = some o) : Inv (cxC X N' sc fp s H) [] (none :: capS js σ) H { s with heap := h1, toks := tk } := by
  refine ⟨⟨I.ok.mod, S.kind, I.ok.glob, I.ok.blt, Nat.le_refl _, fun x y c e1 e2 => I.ok.inj x y c (clOf_sound e1) (clOf_sound e2), fun x hx => ?_, fun x c e => absurd e (by show ¬ (false = true); simp), I.ok.hd, I.ok.frames, .inl rfl, fun b hb => ⟨Nat.ne_of_lt (hlt b hb), fun x c e => (hf b hb).2.2.2.2.1 x c (clOf_sound e)⟩, I.bs,
    Nat.le_trans I.ok.bsz I.sz, fun b o e hb => ?_, fun b hb z => ?_, I.stack, I.stkFree⟩, rfl, I.bare, Un.kept hk, ⟨fun _ => none, hn, fun i x v e1 e2 e3 => ?_⟩, fun x c e => ?_, I.hok.fresh (Nat.le_refl _), fun x c e => I.freeC x c (clOf_sound e), fun p hp => absurd (show p ∈ ([] : List (Addr × Obj)) from hp) (by simp), I.hok.kept hk, ?_⟩
  · have hx' : (relabel sc X.env).names.lookup x = some .cell ∨ (relabel sc X.env).names.lookup x = some .free := hx
    have key : (x, NameKind.free) ∈ sc.names := by
      rcases hx' with q | q
      · obtain ⟨k, hm, e | ⟨e, _⟩⟩ := relabel_mem q
        · exact absurd e.symm (S.nocell _ hm)
        · rw [← e]; exact hm
      · obtain ⟨k, hm, e | ⟨e, _⟩⟩ := relabel_mem q
        · rw [e]; exact hm
        · rw [← e]; exact hm
    have a := List.all_eq_true.mp S.all _ key
    have a' : (X.env.cells.lookup x).isSome = true := by simpa using a
    obtain ⟨c, hc⟩ := Option.isSome_iff_exists.mp a'
    exact ⟨c, cl_has hc sc.names [] key⟩
  · rcases (hf b hb).2.2.2.1 with z | z
    · exact I.ok.noex b o e z
    · exact absurd (Nat.lt_of_lt_of_le (Heap.lt_size e) (Nat.le_trans I.ok.bsz z)) (Nat.lt_irrefl _)
  · rcases List.mem_cons.mp (I.stkSub b z) with q | q
    · exact (hf b hb).2.1 q
    · exact (hf b hb).2.2.1 q
  · cases i with
    | zero => simp at e2
    | succ i =>
      have e2' : (capS js σ)[i]? = some (some v) := by simpa using e2
      unfold capS at e2'
      rw [List.getElem?_map] at e2'
      cases hj : js[i]? with
      | none => rw [hj] at e2'; simp at e2'
      | some j =>
        rw [hj] at e2'
        have e4 : (σ[j]?).join = some v := by simpa using e2'
        have e5 : σ[j]? = some (some v) := by
          cases q : σ[j]? with
          | none => rw [q] at e4; simp at e4
          | some z => rw [q] at e4; simp at e4; rw [e4]
        have e6 : X.N[j]? = some x := by rw [← S.cap i j hj]; exact e1
        have mem : x ∈ N'.tail := by
          have e1' : N'[i + 1]? = some x := e1
          cases hN : N' with
          | nil => rw [hN] at e1'; simp at e1'
          | cons a r => rw [hN] at e1'; exact List.mem_of_getElem? (by simpa using e1')
        obtain ⟨k1, k2⟩ := S.capk x mem
        obtain ⟨m, _, hl⟩ := I.loc
        obtain ⟨u, r, l⟩ := hl j x v e6 e5 (.inr (.inl k1))
        refine ⟨u, r, .inr ⟨.inl (relabel_free I.ok.kind k1 sc.names k2), ?_⟩⟩
        rcases l with ⟨z, _⟩ | ⟨_, c, hc, hcell⟩
        · rw [k1] at z; cases z
        · obtain ⟨o, ho, hd⟩ := hcell
          exact ⟨c, cl_has hc sc.names [] (PySem.mem_of_lookup k2), o, hk c o ho, hd⟩
  · obtain ⟨v, o, ho, hd⟩ := I.cell x c (clOf_sound e)
    exact ⟨v, o, hk c o ho, hd⟩
  · show (none :: capS js σ).length = N'.length
    rw [S.len]; simp [capS]

/-- the reading: W the invariant, by the turn, a measure, what is made so far -/
def tComp (js : List Nat) (wi : TI) (te : TE) : TE := fun σ H Q => wi σ H fun J H1 => ∀ acc, H1 acc = none → ∃ W : Nat → Nat → List V → Hp → Prop, (∃ m, W 0 m [] (upd H1 acc (.lst []))) ∧ ∀ i m ys H2, W i m ys H2 →
  (J.stop i H2 ∧ Q (.ref acc) H2) ∨ (J.go i H2 ∧ ∀ x H3, J.yld i H2 x H3 → te (some x :: capS js σ) H3 fun y H4 => H4 acc = some (.lst ys) ∧ ys.length < sizeLine ∧ ∃ m', m' < m ∧ W (i + 1) m' (ys ++ [y]) (upd H4 acc (.lst (ys ++ [y]))))

theorem compLoop_go {prog : Program} {w : World} {A : Around} {R : Result → Shared → Prop} {s : Shared} {elt target iter : Expr} {sc : Scope} {pos : Pos} {it acc : Value} {env : Env} (Iv : Nat → Shared → Prop)
    (turn : ∀ n s, Iv n s → wpAny (model prog w) A (pyNext it) (fun r s1 => match r with
      | none => R (.ok .next) s1
      | some v => wpAny (model prog w) A (letOwnedTupleGo target it v) (fun _ s2 => wpAny (model prog w) A (assign target env v) (fun _ s3 => wpAny (model prog w) A (eval elt env) (fun x s4 =>
          wpAny (model prog w) A (call (.builtin "list.append") [acc, x]) (fun _ s5 => ∃ m, m < n ∧ Iv m s5) (fun _ _ => False) s4) (fun _ _ => False) s3) (fun _ _ => False) s2) (fun _ _ => False) s1) (fun _ _ => False) s)
    (n : Nat) (h : Iv n s) : codeAny (model prog w) A (.compLoop (.ListComp elt [⟨target, iter, [], 0⟩] sc pos) 0 it acc env) R s := by
  refine codeAny_loop rfl Iv (fun n s hI => ?_) n h
  show wpAny _ _ ((compTurn (.ListComp elt [⟨target, iter, [], 0⟩] sc pos) 0 it acc env).onRaise (fun x => do noteFrame x env; theTreesLotGoes x)) _ _ s
  refine wpAny_noted ?_
  rw [compTurn_list1]
  refine wpAny_bind (wpAny_standAt (wpAny_bind (wpAny_mono (turn n s hI) (fun r s1 q1 => ?_) fun _ _ f => f.elim)))
  cases r with
  | none => exact wpAny_pure q1
  | some v =>
    refine wpAny_bind (wpAny_mono q1 (fun _ s2 q2 => ?_) fun _ _ f => f.elim)
    refine wpAny_bind (wpAny_mono q2 (fun _ s3 q3 => wpAny_bind (wpAny_bind (wpAny_mono q3 (fun x s4 q4 => wpAny_bind (wpAny_mono q4 (fun _ s5 q5 => wpAny_pure (wpAny_pure ⟨rfl, q5⟩)) fun _ _ f => f.elim)) fun _ _ f => f.elim))) fun _ _ f => f.elim)

theorem pe_comp {X : Cx} {elt iter : Expr} {x : Str} {px pos : Pos} {sc : Scope} {wi : TI} {te : TE} {N' : List Str} {js : List Nat} (hc : X.calm = true) (hi : PI X (.Name x px) iter wi) (S : CSc X N' js sc) (h0 : N'[0]? = some x) (nd : N'.Nodup)
    (hx : sc.names.lookup x = some .local) (he : ∀ fp s H, PE (cxC X N' sc fp s H) elt te) (hs : ∀ x, foldedSetIterable iter X.env x = pure x := by intro _; rfl) : PE X (.ListComp elt [⟨.Name x px, iter, [], 0⟩] sc pos) (tComp js wi te) := by
  refine .mk ?_
  intro pins s σ H Q I h
  rw [eval_ListComp]
  refine wpAny_comprehension_free (use := none) rfl hs S.clos S.kind S.names ?_
  refine thn (hi pins s σ H _ I h) fun v s1 q1 => thn q1 fun itv s2 q2 => ?_
  obtain ⟨it, fp, tn, J, H2, e, I2, T, st2, f2, q3⟩ := q2
  subst e
  refine wpAny_newObj_type ?_
  obtain ⟨W, ⟨m0, w0⟩, turn⟩ := q3 s2.heap.objs.size I2.fresh
  have I3 := I2.lnew (ys := []) (its := []) (t' := s2.toks) .nil (Nat.zero_le _)
  have lt2 : ∀ b ∈ fp, b < s2.heap.objs.size := fun b hb => by
    obtain ⟨o, ho, _⟩ := T.obj 0 _ st2 b hb
    exact Heap.lt_size ho
  generalize e3 : ({ s2 with heap := s2.heap.push { cls := .type "list", data := .seq ([] : List Value).toArray }, toks := s2.toks } : Shared) = s3 at I3
  have e3' : ({ s2 with heap := s2.heap.push { cls := .type "list", dict := none, data := .seq ([] : List Value).toArray } } : Shared) = s3 := e3
  have sz3 : s3.heap.objs.size = s2.heap.objs.size + 1 := by rw [← e3]; exact Heap.size_push ..
  have st3 : tn 0 s3.heap := T.keep 0 _ _ st2 fun b hb o ho => by rw [← e3]; exact Heap.get?_push_of_some _ ho
  have lt3 : ∀ b ∈ fp, b < s3.heap.objs.size := fun b hb => by rw [sz3]; exact Nat.lt_succ_of_lt (lt2 b hb)
  have f3 : ∀ b ∈ fp, FpOk X pins (upd H2 s2.heap.objs.size (.lst [])) b := fun b hb => ⟨by rw [upd_ne (Nat.ne_of_lt (lt2 b hb))]; exact (f2 b hb).1, (f2 b hb).2⟩
  generalize hH3 : upd H2 s2.heap.objs.size (.lst []) = H3 at I3 f3 w0
  refine wpAny_newFunctionEnv S.nocell (by intro y hy; simp at hy) (fun h1 hns hsb => ?_) S.kind
  have hk : ∀ b o, s3.heap.get? b = some o → h1.get? b = some o := fun b o q => hsb.extBut b o (Nat.ne_of_lt (Heap.lt_size q)) (Heap.get?_push_of_some _ q)
  have hns' : h1.Ns s3.heap.objs.size fun _ => none := hns
  have I4 : Inv (cxC X N' sc fp s3 H3) [] (none :: capS js σ) H3 { s3 with heap := h1, toks := s3.toks + ([] : List (Str × Value)).length } := inv_comp I3 f3 lt3 S hns' hk
  have st4 : tn 0 h1 := T.keep 0 _ _ st3 fun b hb o ho => hk b o ho
  have stat : ∀ {H' : Hp}, (∀ b ∈ fp, H' b = none) → ∀ b ∈ fp, FpOk (cxC X N' sc fp s3 H3) [] H' b := fun hn b hb => ⟨hn b hb, Nat.ne_of_lt (lt3 b hb), I4.ok.exfs b hb, .inl hb, (I4.ok.exf b hb).2, fun p hp => absurd (show p ∈ ([] : List (Addr × Obj)) from hp) (by simp)⟩
  have lx : Loc (cxC X N' sc fp s3 H3).env.scope x := .inl (lookup_relabel_local hx)
  -- the way out
  have out : ∀ {σ' : St} {H' : Hp} {s' : Shared}, Inv (cxC X N' sc fp s3 H3) [] σ' H' s' → Q (.ref s2.heap.objs.size) H' → compPost (model X.prog X.w) X.A X.xe none (EP X pins σ Q) (.ref s2.heap.objs.size) s3.heap.objs.size (.ok .next) s' := by
    intro σ' H' s' I' q'
    obtain ⟨m, hn, _⟩ := id I'.loc
    refine ⟨m, hn, fun h' sb => ?_⟩
    have I5 : Inv X pins σ H' s' := I3.call' I'.os I'.base I'.hok I'.bare fun b hb => ⟨(f3 b hb).2.2.2.1, (f3 b hb).2.1, (f3 b hb).2.2.2.2.1, (f3 b hb).2.2.2.2.2⟩
    refine ⟨.ref s2.heap.objs.size, H', I5.turned (it := s3.heap.objs.size) (t' := s'.toks) (fun b o hb q => sb.extBut b o hb q) I'.free (Nat.ne_of_gt I3.lt) (.inr I3.sz) (fun y c ec z => ?_) (fun p hp z => ?_), rfl, q'⟩
    · obtain ⟨v, hv⟩ := I3.cell y c ec
      have := hv.lt
      rw [z] at this
      exact Nat.lt_irrefl _ this
    · have := Heap.lt_size (I3.pin p hp).1
      rw [z] at this
      exact Nat.lt_irrefl _ this
  have loop : ∀ s4 : Shared, s4 = { s3 with heap := h1, toks := s3.toks + ([] : List (Str × Value)).length } → codeAny (model X.prog X.w) X.A (.compLoop (.ListComp elt [⟨.Name x px, iter, [], 0⟩] sc pos) 0 (.ref it) (.ref s2.heap.objs.size) (compEnvC sc (clOf sc X.env) s3.heap.objs.size X.env))
      (compPost (model X.prog X.w) X.A X.xe none (EP X pins σ Q) (.ref s2.heap.objs.size) s3.heap.objs.size) s4 := by
    rintro s4 rfl
    refine compLoop_go (fun n s' => ∃ i ys H', Inv (cxC X N' sc fp s3 H3) [] (none :: capS js σ) H' s' ∧ tn i s'.heap ∧ (∀ b ∈ fp, H' b = none) ∧ W i n ys H') ?_ m0 ⟨0, [], H3, I4, st4, fun b hb => (f3 b hb).1, w0⟩
    rintro n s5 ⟨i, ys, H5, I5, st5, fr5, w5⟩
    rcases turn i n ys H5 w5 with ⟨stop, qn⟩ | ⟨go, step⟩
    · refine thn (T.done (cxC X N' sc fp s3 H3) rfl rfl rfl hc i [] s5 _ H5 (fun _ _ => False) I5 (stat fr5) st5 stop) fun r s6 ⟨hr, I6⟩ => ?_
      subst hr
      exact out I6 qn
    · refine thn (T.item (cxC X N' sc fp s3 H3) rfl rfl rfl hc i [] s5 _ H5 (fun _ _ => False) I5 (stat fr5) st5 go) fun r s6 ⟨u, hr, q6⟩ => ?_
      subst hr
      refine thn q6 fun _ s7 ⟨y, H7, I7, r7, y7, st7, fr7⟩ => ?_
      have I7' := I7.pinned (stat fr7) (T.obj _ _ st7)
      have hg : PG (cxC X N' sc fp s3 H3) (.Name x px) (gName 0) := pg_name nd h0 lx (.inr (lookup_relabel_local hx))
      refine thn (hg _ s7 _ H7 y u (fun σ' H' => σ' = some y :: capS js σ ∧ H' = H7) I7' r7 ⟨rfl, rfl⟩) fun _ s8 ⟨σ8, H8, I8, e8, e8'⟩ => ?_
      subst e8 e8'
      refine thn (he fp s3 H3 _ s8 _ _ _ I8 (step y _ y7)) fun z s9 ⟨vz, H9, I9, r9, ha, hz, m', hm, w9⟩ => ?_
      refine thn (mt_append (X := cxC X N' sc fp s3 H3) _ s9 _ H9 (.ref s2.heap.objs.size) [vz] (.ref s2.heap.objs.size) [z] (fun _ H' => H' = upd H9 s2.heap.objs.size (.lst (ys ++ [vz]))) I9 rfl (.cons r9 .nil) ⟨_, ys, vz, rfl, rfl, ha, hz, rfl⟩) fun _ s10 ⟨_, H10, I10, _, e10⟩ => ?_
      subst e10
      refine ⟨m', hm, i + 1, ys ++ [vz], _, (I10.unpinned).weak rfl fun k v e => ?_, T.keep _ _ _ st7 fun b hb o e => (I10.pin (b, o) (List.mem_append_right _ (List.mem_append_right _ (mem_pinsAt hb e)))).1, fun b hb => ?_, w9⟩
      · cases k with
        | zero => simp at e
        | succ k => simpa using e
      · obtain ⟨o, e, d⟩ := T.obj _ _ st7 b hb
        exact (I10.pin (b, o) (List.mem_append_right _ (List.mem_append_right _ (mem_pinsAt hb e)))).2.1
  exact codeAny_compStart_list (loop _ rfl) (T.self X.A 0 _ _ _ st4 (loop _ rfl))
end L2
namespace L2
open PySem PySem.Spec PyProof.Rows
/-! ### data: what a value stands for in the tracked heap -/
def keyD : Key → PyData
  | .inl i => .int i
  | .inr x => .str x
mutual
def At (H : Hp) : PyData → V → Prop
  | .none, v => v = .non
  | .bool b, v => v = .bl b
  | .int i, v => v = .int i
  | .str x, v => v = .str x
  | .tuple ds, v => ∃ a xs, v = .ref a ∧ H a = some (.tup xs) ∧ AtAll H ds xs
  | .list ds, v => ∃ a xs, v = .ref a ∧ H a = some (.lst xs) ∧ AtAll H ds xs
  | .dict kvs, v => ∃ a es, v = .ref a ∧ H a = some (.dK es) ∧ AtKv H kvs es
def AtAll (H : Hp) : List PyData → List V → Prop
  | [], xs => xs = []
  | d :: ds, xs => ∃ x r, xs = x :: r ∧ At H d x ∧ AtAll H ds r
def AtKv (H : Hp) : List (PyData × PyData) → List (Key × V) → Prop
  | [], es => es = []
  | (k, d) :: r, es => ∃ q v t, es = (q, v) :: t ∧ k = keyD q ∧ At H d v ∧ AtKv H r t
end
mutual
theorem At.mono {H H' : Hp} (m : Same H H') : ∀ (d : PyData) (v : V), At H d v → At H' d v
  | .none, _, h => by unfold At at h ⊢; exact h
  | .bool _, _, h => by unfold At at h ⊢; exact h
  | .int _, _, h => by unfold At at h ⊢; exact h
  | .str _, _, h => by unfold At at h ⊢; exact h
  | .tuple ds, v, h => by
    unfold At at h ⊢
    obtain ⟨a, xs, e, h1, h2⟩ := h
    exact ⟨a, xs, e, m _ _ h1, AtAll.mono m ds xs h2⟩
  | .list ds, v, h => by
    unfold At at h ⊢
    obtain ⟨a, xs, e, h1, h2⟩ := h
    exact ⟨a, xs, e, m _ _ h1, AtAll.mono m ds xs h2⟩
  | .dict kvs, v, h => by
    unfold At at h ⊢
    obtain ⟨a, es, e, h1, h2⟩ := h
    exact ⟨a, es, e, m _ _ h1, AtKv.mono m kvs es h2⟩
theorem AtAll.mono {H H' : Hp} (m : Same H H') : ∀ (ds : List PyData) (xs : List V), AtAll H ds xs → AtAll H' ds xs
  | [], _, h => by unfold AtAll at h ⊢; exact h
  | d :: ds, xs, h => by
    unfold AtAll at h ⊢
    obtain ⟨x, r, e, h1, h2⟩ := h
    exact ⟨x, r, e, At.mono m d x h1, AtAll.mono m ds r h2⟩
theorem AtKv.mono {H H' : Hp} (m : Same H H') : ∀ (kvs : List (PyData × PyData)) (es : List (Key × V)), AtKv H kvs es → AtKv H' kvs es
  | [], _, h => by unfold AtKv at h ⊢; exact h
  | (k, d) :: r, es, h => by
    unfold AtKv at h ⊢
    obtain ⟨q, v, t, e, e', h1, h2⟩ := h
    exact ⟨q, v, t, e, e', At.mono m d v h1, AtKv.mono m r t h2⟩
end
theorem AtAll.length {H : Hp} : ∀ {ds : List PyData} {xs : List V}, AtAll H ds xs → xs.length = ds.length
  | [], xs, h => by unfold AtAll at h; rw [h]; rfl
  | d :: ds, xs, h => by
    unfold AtAll at h
    obtain ⟨x, r, e, _, h2⟩ := h
    rw [e, List.length_cons, List.length_cons, AtAll.length h2]
theorem AtAll.get {H : Hp} : ∀ {ds : List PyData} {xs : List V} {i : Nat} {x : V}, AtAll H ds xs → xs[i]? = some x → ∃ d, ds[i]? = some d ∧ At H d x
  | [], xs, i, x, h, e => by unfold AtAll at h; rw [h] at e; simp at e
  | d :: ds, xs, i, x, h, e => by
    unfold AtAll at h
    obtain ⟨y, r, e1, h1, h2⟩ := h
    subst e1
    cases i with
    | zero => simp at e; subst e; exact ⟨d, rfl, h1⟩
    | succ i =>
      obtain ⟨d', q1, q2⟩ := AtAll.get (i := i) (x := x) h2 (by simpa using e)
      exact ⟨d', by simpa using q1, q2⟩
theorem AtAll.getD {H : Hp} : ∀ {ds : List PyData} {xs : List V} {i : Nat} {d : PyData}, AtAll H ds xs → ds[i]? = some d → ∃ x, xs[i]? = some x ∧ At H d x
  | [], xs, i, d, h, e => by simp at e
  | d' :: ds, xs, i, d, h, e => by
    unfold AtAll at h
    obtain ⟨y, r, e1, h1, h2⟩ := h
    subst e1
    cases i with
    | zero => simp at e; subst e; exact ⟨y, rfl, h1⟩
    | succ i =>
      obtain ⟨x, q1, q2⟩ := AtAll.getD (i := i) (d := d) h2 (by simpa using e)
      exact ⟨x, by simpa using q1, q2⟩
theorem AtAll.append {H : Hp} : ∀ {ds es : List PyData} {xs ys : List V}, AtAll H ds xs → AtAll H es ys → AtAll H (ds ++ es) (xs ++ ys)
  | [], es, xs, ys, h, q => by unfold AtAll at h; subst h; exact q
  | d :: ds, es, xs, ys, h, q => by
    unfold AtAll at h
    obtain ⟨x, r, e, h1, h2⟩ := h
    subst e
    show AtAll H (d :: (ds ++ es)) (x :: (r ++ ys))
    unfold AtAll
    exact ⟨x, r ++ ys, rfl, h1, AtAll.append h2 q⟩
theorem AtAll.take {H : Hp} : ∀ {ds : List PyData} {xs : List V} (n : Nat), AtAll H ds xs → AtAll H (ds.take n) (xs.take n)
  | ds, xs, 0, h => by simp [AtAll]
  | [], xs, n + 1, h => by unfold AtAll at h; subst h; simp [AtAll]
  | d :: ds, xs, n + 1, h => by
    unfold AtAll at h
    obtain ⟨x, r, e, h1, h2⟩ := h
    subst e
    show AtAll H (d :: ds.take n) (x :: r.take n)
    unfold AtAll
    exact ⟨x, _, rfl, h1, AtAll.take n h2⟩
theorem AtAll.drop {H : Hp} : ∀ {ds : List PyData} {xs : List V} (n : Nat), AtAll H ds xs → AtAll H (ds.drop n) (xs.drop n)
  | ds, xs, 0, h => h
  | [], xs, n + 1, h => by unfold AtAll at h; subst h; simp [AtAll]
  | d :: ds, xs, n + 1, h => by
    unfold AtAll at h
    obtain ⟨x, r, e, h1, h2⟩ := h
    subst e
    exact AtAll.drop n h2
theorem AtAll.nil {H : Hp} : AtAll H [] [] := by unfold AtAll; rfl
theorem AtAll.cons {H : Hp} {d : PyData} {ds : List PyData} {x : V} {xs : List V} (h1 : At H d x) (h2 : AtAll H ds xs) : AtAll H (d :: ds) (x :: xs) := by
  unfold AtAll; exact ⟨x, xs, rfl, h1, h2⟩
theorem At.tup {H : Hp} {a : Addr} {xs : List V} {ds : List PyData} (h : H a = some (.tup xs)) (q : AtAll H ds xs) : At H (.tuple ds) (.ref a) := by
  unfold At; exact ⟨a, xs, rfl, h, q⟩
theorem At.lst {H : Hp} {a : Addr} {xs : List V} {ds : List PyData} (h : H a = some (.lst xs)) (q : AtAll H ds xs) : At H (.list ds) (.ref a) := by
  unfold At; exact ⟨a, xs, rfl, h, q⟩
theorem At.int {H : Hp} (i : Int) : At H (.int i) (.int i) := by unfold At; rfl
theorem At.str {H : Hp} (x : Str) : At H (.str x) (.str x) := by unfold At; rfl
theorem At.bool {H : Hp} (b : Bool) : At H (.bool b) (.bl b) := by unfold At; rfl
theorem At.non {H : Hp} : At H .none .non := by unfold At; rfl
theorem same_new {H : Hp} {p : Addr} (h : H p = none) (o : HO) : Same H (upd H p o) := fun b u q => by rw [upd_ne (ne_of_none q h)]; exact q
/-- the kind of a thing, by its name -/
def tyD : PyData → String
  | .none => "NoneType"
  | .bool _ => "bool"
  | .int _ => "int"
  | .str _ => "str"
  | .tuple _ => "tuple"
  | .list _ => "list"
  | .dict _ => "dict"
theorem At.ty {K : PySem.W.Frag} {H : Hp} {d : PyData} {v : V} (h : At H d v) : TyOf K H v (.type (tyD d)) := by
  cases d with
  | none => unfold At at h; subst h; exact .non
  | bool b => unfold At at h; subst h; exact .bl b
  | int i => unfold At at h; subst h; exact .int i
  | str x => unfold At at h; subst h; exact .str x
  | tuple ds => unfold At at h; obtain ⟨a, xs, e, h1, _⟩ := h; subst e; exact .tup h1
  | list ds => unfold At at h; obtain ⟨a, xs, e, h1, _⟩ := h; subst e; exact .lst h1
  | dict ds => unfold At at h; obtain ⟨a, xs, e, h1, _⟩ := h; subst e; exact .dK h1
def isInt : PyData → Bool
  | .int _ => true
  | .bool _ => true
  | _ => false
def isTup : PyData → Bool
  | .tuple _ => true
  | _ => false
def isBool : PyData → Bool
  | .bool _ => true
  | _ => false
def isStr : PyData → Bool
  | .str _ => true
  | _ => false
theorem kit_int (K : PySem.W.Frag) (d : PyData) : PySem.W.kitOne K (.type (tyD d)) (.type "int") = some (isInt d) := by cases d <;> kernel_rfl
theorem kit_tup (K : PySem.W.Frag) (d : PyData) : PySem.W.kitOne K (.type (tyD d)) (.type "tuple") = some (isTup d) := by cases d <;> kernel_rfl
theorem kit_bool (K : PySem.W.Frag) (d : PyData) : PySem.W.kitOne K (.type (tyD d)) (.type "bool") = some (isBool d) := by cases d <;> kernel_rfl
theorem kit_str (K : PySem.W.Frag) (d : PyData) : PySem.W.kitOne K (.type (tyD d)) (.type "str") = some (isStr d) := by cases d <;> kernel_rfl
section
variable {X : Cx}
def rIsi (T : String) (f : PyData → Bool) : List V → Hp → VK → Prop := fun vs H Q => ∃ v d, vs = [v, .ty T] ∧ At H d v ∧ Q (.bl (f d)) H
theorem isi_of {T : String} {f : PyData → Bool} (hf : ∀ K d, PySem.W.kitOne K (.type (tyD d)) (.type T) = some (f d)) : CallR X (.builtin "isinstance") (rIsi T f) := by
  refine .mk ?_
  intro pins s σ H vs us Q I r h
  obtain ⟨v, d, rfl, hv, q⟩ := h
  obtain ⟨u, t, rfl, ru, rt⟩ := r.two
  cases (show t = Value.type T from rt)
  exact isinst_ok I ru (hv.ty (K := X.K)) (hf X.K d) fun tk => ⟨.bl (f d), H, I.tok tk, rfl, q⟩
theorem isi_int : CallR X (.builtin "isinstance") (rIsi "int" isInt) := isi_of kit_int
theorem isi_tup : CallR X (.builtin "isinstance") (rIsi "tuple" isTup) := isi_of kit_tup
theorem isi_bool : CallR X (.builtin "isinstance") (rIsi "bool" isBool) := isi_of kit_bool
theorem isi_str : CallR X (.builtin "isinstance") (rIsi "str" isStr) := isi_of kit_str

/-! ### is True, is False -/
/-! ### all, any of a made list of truths -/
theorem vals_bl : ∀ {bs : List Bool} {us : List Value}, Vals (bs.map V.bl) us → us = bs.map Value.bool
  | [], _, .nil => rfl
  | b :: bs, _, .cons r t => by
    cases (show _ = Value.bool b from r)
    rw [vals_bl t]; rfl
theorem range_all (bs : List Bool) : (List.range bs.length).all (fun i => bs.getD i false) = bs.all id := by
  rw [Bool.eq_iff_iff, List.all_eq_true, List.all_eq_true]
  constructor
  · intro h b hb
    obtain ⟨i, hi, rfl⟩ := List.mem_iff_getElem.mp hb
    have := h i (List.mem_range.mpr hi)
    simpa [List.getD_eq_getElem?_getD, hi] using this
  · intro h i hi
    have hi' := List.mem_range.mp hi
    have := h bs[i] (List.getElem_mem hi')
    simpa [List.getD_eq_getElem?_getD, hi'] using this
theorem call_allB (hc : X.calm = true) : CallR X (.builtin "all") (fun vs H Q => ∃ (p : Addr) (bs : List Bool), vs = [.ref p] ∧ H p = some (.lst (bs.map V.bl)) ∧ Q (.bl (bs.all id)) H) := by
  refine .mk ?_
  intro pins s σ H vs us Q I r h
  obtain ⟨p, bs, rfl, hp, q⟩ := h
  obtain ⟨u, rfl, ru⟩ := r.one
  cases ru
  obtain ⟨z, its, n, rv, e⟩ := I.hok p _ hp
  have e2 := vals_bl rv
  subst e2
  have hl : s.heap.IsList p (bs.map Value.bool).toArray := ⟨_, e, rfl, n, rfl⟩
  have lt : p < s.heap.objs.size := Heap.lt_size e
  refine call_all_walk (wpAny_pyIter_list hl ?_)
  refine ⟨_, _, _, _, _, _, fun i => bs.getD i false, rfl, Walks.list (A := X.A.in1) (I.ok.hd hc) _ p (Nat.ne_of_lt lt) _, ⟨⟨_, Heap.get?_push_size _ rfl, rfl, rfl⟩, hl.push _⟩, fun i v s' Q' E' hv hq => ?_, fun h' tk hk => ?_⟩
  · have hv' : (bs.map Value.bool).toArray[i]? = some v := hv
    have : v = .bool (bs.getD i false) := by
      simp only [List.getElem?_toArray, List.getElem?_map] at hv'
      cases q : bs[i]? with
      | none => rw [q] at hv'; simp at hv'
      | some b => rw [q] at hv'; simp at hv'; simp [List.getD_eq_getElem?_getD, q, ← hv']
    rw [this]
    exact wpAny_truthy_bool hq
  · have e3 : (List.range (bs.map Value.bool).toArray.size).all (fun i => bs.getD i false) = bs.all id := by
      rw [List.size_toArray, List.length_map]; exact range_all bs
    refine ⟨.bl (bs.all id), H, I.kept (t' := tk) (fun b o eb => ?_), by rw [← e3]; rfl, q⟩
    exact hk b o (by simpa using Nat.ne_of_lt (Heap.lt_size eb)) (Heap.get?_push_of_some _ eb)
/-! ### sum of ints -/
theorem preSum_list : ∀ (ns : List Int), preSum (fun i => ns.getD i 0) ns.length = ns.sum := by
  have key : ∀ (ns : List Int) (k : Nat), k ≤ ns.length → preSum (fun i => ns.getD i 0) k = (ns.take k).sum := by
    intro ns k
    induction k with
    | zero => intro _; rfl
    | succ k ih =>
      intro hk
      have e : ns.take (k + 1) = ns.take k ++ [ns.getD k 0] := by
        rw [List.take_succ, List.getElem?_eq_getElem (by omega)]
        simp [List.getD_eq_getElem?_getD, List.getElem?_eq_getElem (show k < ns.length by omega)]
      show preSum _ k + ns.getD k 0 = _
      rw [ih (by omega), e, List.sum_append]
      simp
  intro ns
  rw [key ns ns.length (Nat.le_refl _), List.take_length]
theorem ints_at {ns : List Int} {its : List Value} (r : Vals (ns.map V.int) its) {i : Nat} {v : Value} (h : its.toArray[i]? = some v) : ∃ t, v = .int (ns.getD i 0) t := by
  have h' : its[i]? = some v := by simpa using h
  have hi : i < its.length := (List.getElem?_eq_some_iff.mp h').1
  have hl := r.length
  rw [List.length_map] at hl
  obtain ⟨u, hu, ru⟩ := r.get (i := i) (x := V.int (ns[i]'(by omega))) (by rw [List.getElem?_map, List.getElem?_eq_getElem (by omega)]; rfl)
  rw [h'] at hu
  cases hu
  obtain ⟨t, e⟩ := ru
  exact ⟨t, by rw [e, List.getD_eq_getElem?_getD, List.getElem?_eq_getElem (by omega)]; rfl⟩
theorem call_sumI (hc : X.calm = true) : CallR X (.builtin "sum") (fun vs H Q => ∃ (p : Addr) (ns : List Int), vs = [.ref p] ∧ (H p = some (.lst (ns.map V.int)) ∨ H p = some (.tup (ns.map V.int))) ∧ Q (.int ns.sum) H) := by
  refine .mk ?_
  intro pins s σ H vs us Q I r h
  obtain ⟨p, ns, rfl, hp, q⟩ := h
  obtain ⟨u, rfl, ru⟩ := r.one
  cases ru
  have fin : ∀ {h' : Heap} {tk : Nat} {t' : Tok} {o : Obj}, (∀ b o', b ∉ [s.heap.objs.size] → (s.heap.push o).get? b = some o' → h'.get? b = some o') → EP X pins σ Q (.int (preSum (fun i => ns.getD i 0) ns.length) t') { s with heap := h', toks := tk } := fun {h' tk t' o} hk =>
    ⟨.int ns.sum, H, I.kept (t' := tk) (fun b o' eb => hk b o' (by simpa using Nat.ne_of_lt (Heap.lt_size eb)) (Heap.get?_push_of_some _ eb)), ⟨t', by rw [preSum_list]⟩, q⟩
  rcases hp with hp | hp
  · obtain ⟨z, its, n, rv, e⟩ := I.hok p _ hp
    have hl : s.heap.IsList p its.toArray := ⟨_, e, rfl, n, rfl⟩
    have lt : p < s.heap.objs.size := Heap.lt_size e
    have hlen := rv.length
    rw [List.length_map] at hlen
    refine call_sum_walkG (wpAny_pyIter_list hl ?_)
    refine ⟨_, _, _, _, _, _, fun i => ns.getD i 0, rfl, Walks.list (A := X.A.in1) (I.ok.hd hc) _ p (Nat.ne_of_lt lt) _, ⟨⟨_, Heap.get?_push_size _ rfl, rfl, rfl⟩, hl.push _⟩, fun b hb => ?_, fun i v hv => ints_at rv hv, fun h' tk t' hk => ?_⟩
    · show b < (s.heap.push _).objs.size
      rw [Heap.size_push]
      rcases List.mem_cons.mp hb with rfl | hb
      · exact Nat.lt_succ_self _
      · rw [List.mem_singleton.mp hb]; exact Nat.lt_succ_of_lt lt
    · rw [List.size_toArray, ← hlen]; exact fin hk
  · obtain ⟨z, its, rv, ht⟩ := I.hok p _ hp
    have ht' : s.heap.IsTuple p its.toArray := ht
    have lt : p < s.heap.objs.size := by obtain ⟨o, e, _⟩ := ht; exact Heap.lt_size e
    have hlen := rv.length
    rw [List.length_map] at hlen
    refine call_sum_walkG (wpAny_pyIter_tuple ht' ?_)
    refine ⟨_, _, _, _, _, _, fun i => ns.getD i 0, rfl, Walks.tuple (A := X.A.in1) (I.ok.hd hc) _ p (Nat.ne_of_lt lt) _, ⟨⟨_, Heap.get?_push_size _ rfl, rfl, rfl⟩, ?_⟩, fun b hb => ?_, fun i v hv => ints_at rv hv, fun h' tk t' hk => ?_⟩
    · obtain ⟨o, e, c⟩ := ht'
      exact ⟨o, Heap.get?_push_of_some _ e, c⟩
    · show b < (s.heap.push _).objs.size
      rw [Heap.size_push]
      rcases List.mem_cons.mp hb with rfl | hb
      · exact Nat.lt_succ_self _
      · rw [List.mem_singleton.mp hb]; exact Nat.lt_succ_of_lt lt
    · rw [List.size_toArray, ← hlen]; exact fin hk

/-! ### abs, int of a truth, str of an int, the greater and the lesser of two -/
theorem call_intB : CallR X (.type "int") (fun vs H Q => ∃ (b : Bool), vs = [.bl b] ∧ Q (.int (if b then 1 else 0)) H) := by
  refine .mk ?_
  intro pins s σ H vs us Q I r h
  obtain ⟨b, rfl, q⟩ := h
  obtain ⟨u, rfl, ru⟩ := r.one
  cases (show u = Value.bool b from ru)
  exact call_int_bool ⟨.int (if b then 1 else 0), H, I.tok _, ⟨_, rfl⟩, q⟩
/-! ### a tuple beside the empty one -/
end
end L2
namespace L2
open PySem PySem.Spec PyProof.Rows
/-! ### repr of data without dicts -/
mutual
theorem reads_of {P : Program} {w : World} {H : Hp} {h : Heap} (ok : HOk P w H h) : ∀ (d : PyData) (v : V) (u : Value), At H d v → RelV v u → d.hasDict = false → ∃ as, Reads h u d as
  | .none, v, u, a, r, _ => by unfold At at a; subst a; cases r; exact ⟨_, .none⟩
  | .bool b, v, u, a, r, _ => by unfold At at a; subst a; cases r; exact ⟨_, .bool b⟩
  | .int i, v, u, a, r, _ => by unfold At at a; subst a; obtain ⟨t, rfl⟩ := r; exact ⟨_, .int i t⟩
  | .str x, v, u, a, r, _ => by unfold At at a; subst a; obtain ⟨t, rfl⟩ := r; exact ⟨_, .str x t⟩
  | .tuple ds, v, u, a, r, nd => by
    unfold At at a
    obtain ⟨p, xs, e, hp, ha⟩ := a
    subst e
    cases r
    obtain ⟨_, its, rv, o, e1, e2, n, e3⟩ := ok p _ hp
    obtain ⟨as, ra⟩ := reads_all ok ds xs its ha rv (by simpa [PyData.hasDict] using nd)
    exact ⟨_, .tuple e1 e2 e3 (by simpa using ra)⟩
  | .list ds, v, u, a, r, nd => by
    unfold At at a
    obtain ⟨p, xs, e, hp, ha⟩ := a
    subst e
    cases r
    obtain ⟨_, its, n, rv, e1⟩ := ok p _ hp
    obtain ⟨as, ra⟩ := reads_all ok ds xs its ha rv (by simpa [PyData.hasDict] using nd)
    exact ⟨_, .list e1 rfl rfl (by simpa using ra)⟩
  | .dict kvs, v, u, a, r, nd => by simp [PyData.hasDict] at nd
theorem reads_all {P : Program} {w : World} {H : Hp} {h : Heap} (ok : HOk P w H h) : ∀ (ds : List PyData) (xs : List V) (us : List Value), AtAll H ds xs → Vals xs us → PyData.hasDictAll ds = false → ∃ as, ReadsAll h us ds as
  | [], xs, us, a, r, _ => by unfold AtAll at a; subst a; cases r; exact ⟨_, .nil⟩
  | d :: ds, xs, us, a, r, nd => by
    unfold AtAll at a
    obtain ⟨x, t, e, h1, h2⟩ := a
    subst e
    have nd' : d.hasDict = false ∧ PyData.hasDictAll ds = false := by simpa [PyData.hasDictAll] using nd
    cases r with
    | cons r1 r2 =>
      obtain ⟨as, q1⟩ := reads_of ok d x _ h1 r1 nd'.1
      obtain ⟨bs, q2⟩ := reads_all ok ds t _ h2 r2 nd'.2
      exact ⟨_, .cons q1 q2⟩
end
/-- what repr asks of a thing -/
structure Shows (d : PyData) : Prop where
  can : d.showable = true
  nod : d.hasDict = false
  len : d.shown.length ≤ sizeLine
  dep : d.depth ≤ 60
section
variable {X : Cx}
/-! ### a name that is bound at the top to an int; the defs' promises in one parcel -/
/-- a callee: what it promises, how it is found -/
structure Ct (P : Program) (w : World) (K : PySem.W.Frag) (mg : Str → Option Value) (base : Heap) (k : Nat) (x : Str) (ps : List Str) (sp : Sp) where
  f : Addr
  fd : FuncData
  G : FnOk P w K mg base CX0 k f fd ps sp
  kp : PySem.W.keepIn K (.ref f) = true
  b : Binds K fd ps []
  m : mg x = some (.ref f)
def Ct.mono {P : Program} {w : World} {K : PySem.W.Frag} {mg : Str → Option Value} {base : Heap} {j k : Nat} {x : Str} {ps : List Str} {sp : Sp} (c : Ct P w K mg base j x ps sp) (h : j ≤ k) : Ct P w K mg base k x ps sp := { c with G := c.G.mono h }
theorem pcall {k : Nat} {x : Str} {ps : List Str} {sp : Sp} {e : Expr} {es : List Expr} {t : TA} {p pos : Pos} (c : Ct X.prog X.w X.K X.mg X.base k x ps sp) (hr : Room k X.A) (ha : PA X (e :: es) t) (hg : Gl X x := by rfl)
    (hdb : (x == ("__debug__" : Str)) = false := by decide) (he : starEach (e :: es) X.env = (false, eval e X.env) :: starEach es X.env := by rfl) (hpl : (backTo pos (starEach es X.env)).any (·.1) = false := by rfl) :
    PE X (.Call (.Name x p) (e :: es) [] pos) (tCall sp [] E0 t) := pe_call c.G hr hg c.m c.kp c.b .nil pass0 ha hdb he hpl
/-- a callee that tells a truth of things and changes nothing -/
def spB1 (f : PyData → Bool) : Sp := fun vs H Q _ => ∃ v d, vs = [v] ∧ At H d v ∧ ∀ H', Same H H' → Q (.bl (f d)) H'
def spB2 (f : PyData → PyData → Bool) : Sp := fun vs H Q _ => ∃ v d v' d', vs = [v, v'] ∧ At H d v ∧ At H d' v' ∧ ∀ H', Same H H' → Q (.bl (f d d')) H'
/-- .. beside a thing ints -/
def spBI1 (f : PyData → Int → Bool) : Sp := fun vs H Q _ => ∃ v d i, vs = [v, .int i] ∧ At H d v ∧ ∀ H', Same H H' → Q (.bl (f d i)) H'
def spBI2 (f : PyData → Int → Int → Bool) : Sp := fun vs H Q _ => ∃ v d i j, vs = [v, .int i, .int j] ∧ At H d v ∧ ∀ H', Same H H' → Q (.bl (f d i j)) H'
theorem spB1.len {f : PyData → Bool} {ps : List Str} (h : ps.length = 1) : ∀ vs H Q E, spB1 f vs H Q E → vs.length = ps.length := by rintro vs H Q E ⟨v, d, rfl, _⟩; exact h.symm
theorem spB2.len {f : PyData → PyData → Bool} {ps : List Str} (h : ps.length = 2) : ∀ vs H Q E, spB2 f vs H Q E → vs.length = ps.length := by rintro vs H Q E ⟨v, d, v', d', rfl, _⟩; exact h.symm
theorem spBI1.len {f : PyData → Int → Bool} {ps : List Str} (h : ps.length = 2) : ∀ vs H Q E, spBI1 f vs H Q E → vs.length = ps.length := by rintro vs H Q E ⟨v, d, i, rfl, _⟩; exact h.symm
theorem spBI2.len {f : PyData → Int → Int → Bool} {ps : List Str} (h : ps.length = 3) : ∀ vs H Q E, spBI2 f vs H Q E → vs.length = ps.length := by rintro vs H Q E ⟨v, d, i, j, rfl, _⟩; exact h.symm
theorem B1.of {f : PyData → Bool} {v : V} {d : PyData} {H : Hp} {Q : VK} {E : XK} (h : At H d v) (q : ∀ H', Same H H' → Q (.bl (f d)) H') : spB1 f ([v] ++ []) H Q E := ⟨v, d, rfl, h, q⟩
theorem BI1.of {f : PyData → Int → Bool} {v : V} {d : PyData} {i : Int} {H : Hp} {Q : VK} {E : XK} (h : At H d v) (q : ∀ H', Same H H' → Q (.bl (f d i)) H') : spBI1 f ([v, .int i] ++ []) H Q E := ⟨v, d, i, rfl, h, q⟩
theorem BI2.of {f : PyData → Int → Int → Bool} {v : V} {d : PyData} {i j : Int} {H : Hp} {Q : VK} {E : XK} (h : At H d v) (q : ∀ H', Same H H' → Q (.bl (f d i j)) H') : spBI2 f ([v, .int i, .int j] ++ []) H Q E := ⟨v, d, i, j, rfl, h, q⟩
theorem B2.of {f : PyData → PyData → Bool} {v v' : V} {d d' : PyData} {H : Hp} {Q : VK} {E : XK} (h : At H d v) (h' : At H d' v') (q : ∀ H', Same H H' → Q (.bl (f d d')) H') : spB2 f ([v, v'] ++ []) H Q E := ⟨v, d, v', d', rfl, h, h', q⟩

/-! ### a comprehension over a tuple of things, each told a truth -/
end
/-! ### the words by which a reading is opened -/
theorem rd_var0 {v : V} {σ : St} {H : Hp} {Q : VK} : tVar 0 (some v :: σ) H Q = Q v H := by
  unfold tVar; simp
theorem rd_varS {i : Nat} {o : Option V} {σ : St} {H : Hp} {Q : VK} : tVar (i + 1) (o :: σ) H Q = tVar i σ H Q := by
  unfold tVar; simp
theorem rd_set0 {v : V} {o : Option V} {σ : St} : (o :: σ).set 0 (some v) = some v :: σ := rfl
theorem rd_setS {i : Nat} {v : V} {o : Option V} {σ : St} : (o :: σ).set (i + 1) (some v) = o :: σ.set i (some v) := rfl
theorem rd_gcons {t : TG} {u : TGs} {v : V} {r : List V} {σ : St} {H : Hp} {Q : St → Hp → Prop} : gCons t u (v :: r) σ H Q = t v σ H fun σ' H' => u r σ' H' Q := by
  unfold gCons
  refine propext ⟨?_, fun h => ⟨v, r, rfl, h⟩⟩
  rintro ⟨v', r', e, h⟩
  cases e
  exact h
theorem rd_gnil {σ : St} {H : Hp} {Q : St → Hp → Prop} : gNil [] σ H Q = Q σ H := by
  unfold gNil; simp
theorem and_if {b : Bool} {A B : Prop} (h1 : b = true → A) (h2 : b = false → B) : if b = true then A else B := by
  cases b
  · rw [if_neg (by decide)]; exact h2 rfl
  · rw [if_pos rfl]; exact h1 rfl
theorem rd_eqI {i j : Int} {H : Hp} {Q : VK} : rEq (.int i) (.int j) H Q = Q (.bl (decide (i = j))) H := by
  unfold rEq scal; simp
theorem rd_neI {i j : Int} {H : Hp} {Q : VK} : rNe (.int i) (.int j) H Q = Q (.bl (!decide (i = j))) H := by
  unfold rNe scal; simp
theorem rd_eqS {i j : Str} {H : Hp} {Q : VK} : rEq (.str i) (.str j) H Q = Q (.bl (decide (i = j))) H := by
  unfold rEq scal; simp
theorem rd_neS {i j : Str} {H : Hp} {Q : VK} : rNe (.str i) (.str j) H Q = Q (.bl (!decide (i = j))) H := by
  unfold rNe scal; simp
theorem rd_argI {i : Int} {P : Int → Prop} : (∃ k, [V.int i] = [V.int k] ∧ P k) = P i := by
  simp
theorem rd_argB {i : Bool} {P : Bool → Prop} : (∃ k, [V.bl i] = [V.bl k] ∧ P k) = P i := by
  simp
theorem rd_argII {i j : Int} {P : Int → Int → Prop} : (∃ a b, [V.int i, V.int j] = [V.int a, V.int b] ∧ P a b) = P i j := by
  refine propext ⟨?_, fun h => ⟨i, j, rfl, h⟩⟩
  rintro ⟨a, b, e, h⟩
  cases e
  exact h
theorem rd_test {b : Bool} {P : Bool → Prop} : (∃ k, V.bl b = V.bl k ∧ P k) = P b := by
  simp
theorem rd_int {i : Int} {P : Int → Prop} : (∃ k, V.int i = V.int k ∧ P k) = P i := by
  simp
theorem rd_ii {i j : Int} {P : Int → Int → Prop} : (∃ a b, V.int i = V.int a ∧ V.int j = V.int b ∧ P a b) = P i j := by
  simp
end L2
namespace L2
open PySem PySem.Spec PyProof.Rows
theorem forIn_steps {α β : Type} {g : β → α → β} {f : α → β → Sem (ForInStep β)} : ∀ (l : List α) (c : β), (∀ x ∈ l, ∀ c, f x c = pure (.yield (g c x))) → forIn l c f = (pure (l.foldl g c) : Sem β)
  | [], c, _ => rfl
  | x :: l, c, h => by
    rw [List.forIn_cons, h x List.mem_cons_self c, pure_bind]
    exact forIn_steps l (g c x) fun y hy => h y (List.mem_cons_of_mem _ hy)
theorem closure_is {sc : Scope} {env : Env} (h : (sc.names.all fun y => y.2 != .free || (env.cells.lookup y.1).isSome) = true) : closureFor sc env = pure (clOf sc env) := by
  unfold closureFor clOf
  dsimp only
  rw [forIn_steps (g := clStep env) sc.names [] (fun y hy c => ?_)]
  · rfl
  obtain ⟨n, k⟩ := y
  have a := List.all_eq_true.mp h _ hy
  dsimp only
  unfold clStep
  dsimp only
  cases hk : (k == NameKind.free) with
  | false => simp
  | true =>
    have hk' : k = .free := beq_iff_eq.mp hk
    subst hk'
    have a' : (env.cells.lookup n).isSome = true := by simpa using a
    obtain ⟨c', hc'⟩ := Option.isSome_iff_exists.mp a'
    simp [cellOf, hc']
theorem names_ok {sc : Scope} (h : (sc.names.all fun y => y.2 != .local || sc.names.lookup y.1 == some .local) = true) : ∀ y ∈ sc.names, y.2 = .local → sc.names.lookup y.1 = some .local := fun y hy e => by
  have a := List.all_eq_true.mp h y hy
  rw [e] at a
  simpa using a
theorem CSc.mk0 {X : Cx} {x : Str} {sc : Scope} (k : sc.kind = .function := by rfl) (n : (sc.names.all fun y => y.2 != .cell && y.2 != .free) = true := by decide +kernel) (l : (sc.names.all fun y => y.2 != .local || sc.names.lookup y.1 == some .local) = true := by decide +kernel) : CSc X [x] [] sc := by
  have n' : ∀ y ∈ sc.names, y.2 ≠ .cell ∧ y.2 ≠ .free := fun y hy => by have := List.all_eq_true.mp n y hy; simpa using this
  have al : (sc.names.all fun y => y.2 != .free || (X.env.cells.lookup y.1).isSome) = true := List.all_eq_true.mpr fun y hy => by simp [(n' y hy).2]
  exact ⟨k, fun y hy => (n' y hy).1, names_ok l, closure_is al, al, rfl, fun i j h => by simp at h, fun y h => by simp at h⟩
theorem CSc.mk1 {X : Cx} {x y : Str} {sc : Scope} {j : Nat} (hj : X.N[j]? = some y := by rfl) (k : sc.kind = .function := by rfl) (n : (sc.names.all fun y => y.2 != .cell) = true := by decide +kernel)
    (l : (sc.names.all fun y => y.2 != .local || sc.names.lookup y.1 == some .local) = true := by decide +kernel) (al : (sc.names.all fun y => y.2 != .free || (X.env.cells.lookup y.1).isSome) = true := by rfl)
    (k1 : X.env.kindOf y = some .cell := by rfl) (k2 : sc.names.lookup y = some .free := by rfl) : CSc X [x, y] [j] sc := by
  have n' : ∀ y ∈ sc.names, y.2 ≠ .cell := fun y hy => by have := List.all_eq_true.mp n y hy; simpa using this
  refine ⟨k, n', names_ok l, closure_is al, al, rfl, fun i j' h => ?_, fun z h => ?_⟩
  · cases i with
    | zero => simp at h; subst h; exact hj.symm
    | succ i => simp at h
  · have e : z = y := by simpa using h
    subst e; exact ⟨k1, k2⟩
theorem CSc.mk2 {X : Cx} {x y z : Str} {sc : Scope} {j j2 : Nat} (hj : X.N[j]? = some y := by rfl) (hj2 : X.N[j2]? = some z := by rfl) (k : sc.kind = .function := by rfl) (n : (sc.names.all fun y => y.2 != .cell) = true := by decide +kernel)
    (l : (sc.names.all fun y => y.2 != .local || sc.names.lookup y.1 == some .local) = true := by decide +kernel) (al : (sc.names.all fun y => y.2 != .free || (X.env.cells.lookup y.1).isSome) = true := by rfl)
    (k1 : X.env.kindOf y = some .cell := by rfl) (k2 : sc.names.lookup y = some .free := by rfl) (k3 : X.env.kindOf z = some .cell := by rfl) (k4 : sc.names.lookup z = some .free := by rfl) : CSc X [x, y, z] [j, j2] sc := by
  have n' : ∀ y ∈ sc.names, y.2 ≠ .cell := fun y hy => by have := List.all_eq_true.mp n y hy; simpa using this
  refine ⟨k, n', names_ok l, closure_is al, al, rfl, fun i j' h => ?_, fun v h => ?_⟩
  · match i, h with
    | 0, h => simp at h; subst h; exact hj.symm
    | 1, h => simp at h; subst h; exact hj2.symm
    | i + 2, h => simp at h
  · have e : v = y ∨ v = z := by simpa using h
    rcases e with e | e
    · subst e; exact ⟨k1, k2⟩
    · subst e; exact ⟨k3, k4⟩
/-! ### arguments without a star -/
def plainE : Expr → Bool
  | .Starred _ _ => false
  | _ => true
theorem star_one {env : Env} {e : Expr} {es : List Expr} (h : plainE e = true) : starEach (e :: es) env = (false, eval e env) :: starEach es env := by
  cases e <;> first | rfl | exact absurd h (by simp [plainE])
theorem star_none {env : Env} {pos : Pos} : ∀ {es : List Expr}, es.all plainE = true → (backTo pos (starEach es env)).any (·.1) = false
  | [], _ => rfl
  | e :: es, h => by
    have h' : plainE e = true ∧ es.all plainE = true := by simpa using h
    rw [star_one h'.1]
    show (false || (backTo pos (starEach es env)).any (·.1)) = false
    rw [star_none h'.2]; rfl
section
variable {X : Cx} {x : Str} {p pos : Pos} {e : Expr} {es : List Expr} {te : TE} {t : TA} {id T : String} {r : List V → Hp → VK → Prop}
theorem pa_c (ha : PE X e te) (hr : PA X es t) (h : plainE e = true := by rfl) : PA X (e :: es) (tCons te t) := pa_cons ha hr (star_one h)
theorem pf {k : Nat} {ps : List Str} {sp : Sp} (c : Ct X.prog X.w X.K X.mg X.base k x ps sp) (hr : Room k X.A) (ha : PA X (e :: es) t) (hg : Gl X x := by rfl) (hdb : (x == ("__debug__" : Str)) = false := by decide) (h1 : plainE e = true := by rfl) (h2 : es.all plainE = true := by rfl) :
    PE X (.Call (.Name x p) (e :: es) [] pos) (tCall sp [] E0 t) := pcall c hr ha hg hdb (star_one h1) (star_none h2)
theorem pb (hc : CallR X (.builtin id) r) (hm : X.mg x = none) (hv : bootBuiltins x = some (.builtin id)) (ha : PA X (e :: es) t) (hg : Gl X x := by rfl) (hn : x ≠ "__name__" := by decide) (hdb : (x == ("__debug__" : Str)) = false := by decide)
    (h1 : plainE e = true := by rfl) (h2 : es.all plainE = true := by rfl) : PE X (.Call (.Name x p) (e :: es) [] pos) (tCB r t) := pe_callB hc hg hm hv ha hn hdb (star_one h1) (star_none h2)
theorem pt (hc : CallR X (.type T) r) (hm : X.mg x = none) (hv : bootBuiltins x = some (.type T)) (ha : PA X (e :: es) t) (hg : Gl X x := by rfl) (hn : x ≠ "__name__" := by decide) (hdb : (x == ("__debug__" : Str)) = false := by decide)
    (h1 : plainE e = true := by rfl) (h2 : es.all plainE = true := by rfl) : PE X (.Call (.Name x p) (e :: es) [] pos) (tCB r t) := pe_callTy hc hg hm hv ha hn hdb (star_one h1) (star_none h2)
end
end L2
namespace HT
open PySem PyProof.Rows
section
variable {prog : Program} {w : World} {A : Around} {E : Value → Shared → Prop} {s : Shared}
end
end HT
namespace L2
open PySem PySem.Spec PyProof.Rows
/-! ### Python's own names -/
theorem bt_isinstance : bootBuiltins "isinstance" = some (.builtin "isinstance") := by decide +kernel
theorem bt_len : bootBuiltins "len" = some (.builtin "len") := by decide +kernel
theorem bt_all : bootBuiltins "all" = some (.builtin "all") := by decide +kernel
theorem bt_sum : bootBuiltins "sum" = some (.builtin "sum") := by decide +kernel
theorem bt_abs : bootBuiltins "abs" = some (.builtin "abs") := by decide +kernel
theorem bt_min : bootBuiltins "min" = some (.builtin "min") := by decide +kernel
theorem bt_max : bootBuiltins "max" = some (.builtin "max") := by decide +kernel
theorem bt_int : bootBuiltins "int" = some (.type "int") := by decide +kernel
theorem bt_str : bootBuiltins "str" = some (.type "str") := by decide +kernel
theorem bt_bool : bootBuiltins "bool" = some (.type "bool") := by decide +kernel
theorem bt_list : bootBuiltins "list" = some (.type "list") := by decide +kernel
theorem bt_tuple : bootBuiltins "tuple" = some (.type "tuple") := by decide +kernel
theorem bt_enumerate : bootBuiltins "enumerate" = some (.type "enumerate") := by decide +kernel
theorem bt_zip : bootBuiltins "zip" = some (.type "zip") := by decide +kernel
section
variable {X : Cx}
theorem pty {x : Str} {T : String} {pos : Pos} (hg : Gl X x) (hm : X.mg x = none) (hv : bootBuiltins x = some (.type T)) (hn : x ≠ "__name__" := by decide) (hd : (x == ("__debug__" : Str)) = false := by decide) : PE X (.Name x pos) (tC (.ty T)) :=
  pe_bltn (v := .ty T) hg hm hv rfl hn hd
theorem Isi.of {T : String} {g : PyData → Bool} {v : V} {d : PyData} {H : Hp} {Q : VK} (h : At H d v) (q : Q (.bl (g d)) H) : rIsi T g [v, .ty T] H Q := ⟨v, d, rfl, h, q⟩
/-- len of a list or a tuple, tracked or of the top -/
def rLen (K : PySem.W.Frag) : List V → Hp → VK → Prop := fun vs H Q => ∃ (p : Addr) (ys : List V), vs = [.ref p] ∧ (SqL K H p ys ∨ SqT K H p ys) ∧ Q (.int ys.length) H
theorem call_lenK {K : PySem.W.Frag} (hK : X.K = K) : CallR X (.builtin "len") (rLen K) := by
  subst hK
  exact call_len_seq
def rIxO : R2 := fun x y H Q => ∃ (p : Addr) (xs : List V) (i : Int) (v : V), x = .ref p ∧ y = .int i ∧ (H p = some (.lst xs) ∨ H p = some (.tup xs)) ∧ atI xs i = some v ∧ Q v H
theorem ix_obj : IxR X rIxO := by
  have h := (ix_list (X := X)).or ix_tup
  refine .mk ?_
  intro a b pins s σ H x y v u Q I rx ry q
  obtain ⟨p, xs, i, z, e1, e2, hp, ha, q⟩ := q
  intro hs
  refine h a b pins s σ H x y v u Q I rx ry ?_ hs
  rcases hp with hp | hp
  · exact .inl ⟨p, xs, i, z, e1, e2, SqL.of hp, ha, q⟩
  · exact .inr ⟨p, xs, i, z, e1, e2, SqT.of hp, ha, q⟩
theorem Ix.tup {a : Addr} {xs : List V} {i : Int} {v : V} {H : Hp} {Q : VK} (h : H a = some (.tup xs)) (e : atI xs i = some v) (q : Q v H) : rIxO (.ref a) (.int i) H Q := ⟨a, xs, i, v, rfl, rfl, .inr h, e, q⟩
theorem Ix.lst {a : Addr} {xs : List V} {i : Int} {v : V} {H : Hp} {Q : VK} (h : H a = some (.lst xs)) (e : atI xs i = some v) (q : Q v H) : rIxO (.ref a) (.int i) H Q := ⟨a, xs, i, v, rfl, rfl, .inl h, e, q⟩
/-- a comprehension over range(n), by an invariant -/
theorem comp_R {js : List Nat} {ta : TA} {te : TE} {σ : St} {H : Hp} {Q : VK} {n : Nat} (hl : ∀ R : List V → Hp → Prop, R [.int n] H → ta σ H R) (hn : n ≤ 1000000)
    (h : ∀ acc, H acc = none → ∃ Pv : Nat → List V → Hp → Prop, Pv 0 [] (upd H acc (.lst [])) ∧
      (∀ i ys H', i < n → Pv i ys H' → te (some (.int (0 + (i : Nat))) :: capS js σ) H' fun y H'' => H'' acc = some (.lst ys) ∧ ys.length < sizeLine ∧ Pv (i + 1) (ys ++ [y]) (upd H'' acc (.lst (ys ++ [y])))) ∧
      ∀ ys H', Pv n ys H' → Q (.ref acc) H') : tComp js (iRng1 ta) te σ H Q := by
  refine hl _ ⟨n, rfl, by omega, by omega, fun acc hacc => ?_⟩
  obtain ⟨Pv, h0, hs, hd⟩ := h acc hacc
  have en : ((n : Int)).toNat = n := Int.toNat_natCast n
  rw [en]
  refine ⟨fun i m ys H' => m = n - i ∧ i ≤ n ∧ Pv i ys H', ⟨n, rfl, Nat.zero_le _, h0⟩, ?_⟩
  rintro i m ys H2 ⟨rfl, hi, p⟩
  by_cases hlt : i < n
  · refine .inr ⟨hlt, fun x H3 y => ?_⟩
    obtain ⟨e, y⟩ := y
    subst e y
    have tmono := hs i ys _ hlt p
    have fe : (fun (y : V) (H'' : Hp) => H'' acc = some (.lst ys) ∧ ys.length < sizeLine ∧ Pv (i + 1) (ys ++ [y]) (upd H'' acc (.lst (ys ++ [y])))) = fun y H4 => H4 acc = some (.lst ys) ∧ ys.length < sizeLine ∧ ∃ m', m' < n - i ∧ (m' = n - (i + 1) ∧ i + 1 ≤ n ∧ Pv (i + 1) (ys ++ [y]) (upd H4 acc (.lst (ys ++ [y])))) := by
      funext y H''
      refine propext ⟨fun ⟨a, b, c⟩ => ⟨a, b, _, by omega, rfl, hlt, c⟩, fun ⟨a, b, m', _, _, _, c⟩ => ⟨a, b, c⟩⟩
    rw [fe] at tmono
    exact tmono
  · have e : i = n := by omega
    subst e
    exact .inl ⟨Nat.le_refl _, hd ys _ p⟩
theorem call_tupL : CallR X (.type "tuple") (fun vs H Q => ∃ (p : Addr) (ys : List V), vs = [.ref p] ∧ H p = some (.lst ys) ∧ ∀ l, H l = none → Q (.ref l) (upd H l (.tup ys))) := by
  refine .mk ?_
  intro pins s σ H vs us Q I r h
  obtain ⟨p, ys, e, hp, q⟩ := h
  exact call_tuple_of pins s σ H vs us Q I r ⟨p, ys, e, .inl ⟨SqL.of hp, q⟩⟩
/-- for k in range(n), by an invariant -/
theorem for_R {ta : TA} {g : TG} {tb : TS} {D : Ends} {σ : St} {H : Hp} {n : Nat} (hl : ∀ R : List V → Hp → Prop, R [.int n] H → ta σ H R) (hn : n ≤ 1000000) (Pv : Nat → St → Hp → Prop) (h0 : Pv 0 σ H)
    (hs : ∀ i σ H, i < n → Pv i σ H → g (.int (0 + (i : Nat))) σ H fun σ2 H2 => tb { D with nx := Pv (i + 1), ct := Pv (i + 1), bk := D.nx } σ2 H2) (hd : ∀ σ H, Pv n σ H → D.nx σ H) : tFor (iRng1 ta) g tb D σ H := by
  refine hl _ ⟨n, rfl, by omega, by omega, ?_⟩
  rw [Int.toNat_natCast]
  exact for_range Pv h0 hs hd
/-- displays, the new heap a letter -/
def tLstW (t : TA) : TE := fun σ H Q => t σ H fun xs H1 => xs.length ≤ sizeLine ∧ ∀ p H', H1 p = none → Same H1 H' → H' p = some (.lst xs) → Q (.ref p) H'
def tTupW (t : TA) : TE := fun σ H Q => t σ H fun xs H1 => xs.length ≤ sizeLine ∧ ∀ p H', H1 p = none → Same H1 H' → H' p = some (.tup xs) → Q (.ref p) H'
theorem pe_lstW {es : List Expr} {t : TA} {pos : Pos} (h : PA X es t) : PE X (.List es pos) (tLstW t) := by
  refine .mk ?_
  intro pins s σ H Q I hq
  refine wpAny_List_spliced (thn (h pos pins s σ H _ I hq) fun us s1 ⟨xs, H1, I1, r, z, q⟩ => ⟨by rw [← r.length]; exact z, ?_⟩)
  have fr : H1 s1.heap.objs.size = none := I1.hok.fresh (Nat.le_refl _)
  exact ⟨.ref s1.heap.objs.size, upd H1 s1.heap.objs.size (.lst xs), I1.laid (t' := s1.toks) (fun b u e => Heap.get?_push_of_some _ e) (Nat.le_refl _) ⟨z, us, 0, r, Heap.get?_push_size _ rfl⟩, rfl, q _ _ fr (same_new fr _) upd_same⟩
theorem pe_tupW {es : List Expr} {t : TA} {x1} {pos : Pos} (h : PA X es t) : PE X (.Tuple es x1 pos) (tTupW t) := by
  refine .mk ?_
  intro pins s σ H Q I hq
  refine wpAny_Tuple_spliced (thn (h pos pins s σ H _ I hq) fun us s1 ⟨xs, H1, I1, r, z, q⟩ => ⟨by rw [← r.length]; exact z, ?_⟩)
  have fr : H1 s1.heap.objs.size = none := I1.hok.fresh (Nat.le_refl _)
  exact ⟨.ref s1.heap.objs.size, upd H1 s1.heap.objs.size (.tup xs), I1.laid (t' := s1.toks) (fun b u e => Heap.get?_push_of_some _ e) (Nat.le_refl _) ⟨z, us, r, ⟨_, Heap.get?_push_size _ rfl, rfl, _, rfl⟩⟩, rfl, q _ _ fr (same_new fr _) upd_same⟩
/-! ### all but one object -/
def hid (a : Addr) (H : Hp) : Hp := fun b => if b = a then none else H b
theorem hid_ne {a b : Addr} {H : Hp} (h : b ≠ a) : hid a H b = H b := if_neg h
theorem hid_self {a : Addr} {H : Hp} : hid a H a = none := if_pos rfl
theorem hid_some {a b : Addr} {H : Hp} {o : HO} (h : hid a H b = some o) : b ≠ a ∧ H b = some o := by
  by_cases e : b = a
  · subst e; rw [hid_self] at h; cases h
  · exact ⟨e, by rw [hid_ne e] at h; exact h⟩
theorem hid_upd {a : Addr} {H : Hp} {o : HO} : hid a (upd H a o) = hid a H := by
  funext b
  by_cases e : b = a
  · subst e; rw [hid_self, hid_self]
  · rw [hid_ne e, hid_ne e, upd_ne e]
theorem hid_upd_ne {a p : Addr} {H : Hp} {o : HO} (h : p ≠ a) : hid a (upd H p o) = upd (hid a H) p o := by
  funext b
  by_cases e : b = a
  · subst e; rw [hid_self, upd_ne (Ne.symm h), hid_self]
  · rw [hid_ne e]
    by_cases e' : b = p
    · subst e'; rw [upd_same, upd_same]
    · rw [upd_ne e', upd_ne e', hid_ne e]
theorem hid_sub {a : Addr} {H : Hp} : Same (hid a H) H := fun b o h => (hid_some h).2
/-- what is tracked stays, but for the object at a -/
def SX (a : Addr) (H H' : Hp) : Prop := Same (hid a H) (hid a H')
theorem SX.refl (a : Addr) (H : Hp) : SX a H H := Same.refl _
theorem SX.trans {a : Addr} {H H1 H2 : Hp} (x : SX a H H1) (y : SX a H1 H2) : SX a H H2 := Same.trans x y
theorem SX.of {a : Addr} {H H' : Hp} (s : Same H H') : SX a H H' := fun b o h => by
  obtain ⟨n, e⟩ := hid_some h
  rw [hid_ne n]; exact s _ _ e
theorem SX.upd {a : Addr} {H : Hp} {o : HO} : SX a H (upd H a o) := by unfold SX; rw [hid_upd]; exact Same.refl _
theorem SX.get {a b : Addr} {H H' : Hp} {o : HO} (s : SX a H H') (n : b ≠ a) (h : H b = some o) : H' b = some o := by
  have := s b o (by rw [hid_ne n]; exact h)
  exact (hid_some this).2
/-- the law's tape: three ints, how many draws there were at most -/
def Tp (H : Hp) (a : Addr) (n : Nat) : Prop := ∃ x y z : Int, H a = some (.lst [.int x, .int y, .int z]) ∧ 0 ≤ x ∧ 0 ≤ y ∧ y < 4611686018427387904 ∧ 0 ≤ z ∧ z ≤ n
theorem Tp.mono {H : Hp} {a : Addr} {n m : Nat} (h : Tp H a n) (l : n ≤ m) : Tp H a m := by
  obtain ⟨x, y, z, e, h1, h2, h3, h4, h5⟩ := h
  exact ⟨x, y, z, e, h1, h2, h3, h4, by omega⟩
theorem Tp.same {H H' : Hp} {a : Addr} {n : Nat} (h : Tp H a n) (s : Same H H') : Tp H' a n := by
  obtain ⟨x, y, z, e, r⟩ := h
  exact ⟨x, y, z, s _ _ e, r⟩
theorem Tp.ne {H : Hp} {a b : Addr} {n : Nat} (h : Tp H a n) (e : H b = none) : b ≠ a := by
  obtain ⟨x, y, z, q, _⟩ := h
  intro z; subst z; rw [e] at q; cases q
theorem Same.hid {a : Addr} {H H' : Hp} (s : Same H H') : Same (L2.hid a H) (L2.hid a H') := fun b o h => by
  obtain ⟨n, e⟩ := hid_some h
  rw [hid_ne n]; exact s _ _ e
theorem Ap.of {K : PySem.W.Frag} {p : Addr} {xs : List V} {v : V} {H : Hp} {Q : VK} (h : H p = some (.lst xs)) (z : xs.length < sizeLine) (q : Q .non (upd H p (.lst (xs ++ [v])))) : rAppend (.ref p) [v] H Q := ⟨p, xs, v, rfl, rfl, h, z, q⟩
theorem SX.updN {a p : Addr} {H H' : Hp} {o : HO} (s : SX a H H') (hp : H p = none) (pa : p ≠ a) : SX a H (L2.upd H' p o) := fun b u h => by
  obtain ⟨n, e⟩ := hid_some h
  rw [hid_upd_ne pa, upd_ne (ne_of_none e hp)]
  exact s b u h
theorem Tp.updN {H : Hp} {a p : Addr} {n : Nat} {o : HO} (t : Tp H a n) (pa : p ≠ a) : Tp (L2.upd H p o) a n := by
  obtain ⟨x, y, z, e, r⟩ := t
  exact ⟨x, y, z, by rw [upd_ne (Ne.symm pa)]; exact e, r⟩
/-- the script: the caller's own list, which nothing here may change -/
def Scr (K : PySem.W.Frag) (H : Hp) (p : Addr) (xs : List V) : Prop := (∃ o, H p = some (.frz o (.lst xs))) ∨
  ∃ (o : Obj) (its : Array Value) (n : Nat), K.lookup p = some o ∧ o.cls = .type "list" ∧ o.dict = none ∧ o.data = .seq its n ∧ its.size ≤ sizeLine ∧ Vals xs its.toList
theorem Scr.sq {K : PySem.W.Frag} {H : Hp} {p : Addr} {xs : List V} (h : Scr K H p xs) : SqL K H p xs := by
  rcases h with ⟨o, h⟩ | h
  · exact .inl (.inr ⟨o, h⟩)
  · exact .inr h
theorem Scr.of {K : PySem.W.Frag} {H : Hp} {p : Addr} {xs : List V} (h : SqL K H p xs) (o : Only H) : Scr K H p xs := by
  rcases h with (h | h) | h
  · rcases o p with e | ⟨ob, ys, e⟩
    · rw [e] at h; cases h
    · rw [e] at h; cases h
  · exact .inl h
  · exact .inr h
theorem Scr.same {K : PySem.W.Frag} {H H' : Hp} {p : Addr} {xs : List V} (h : Scr K H p xs) (s : Same H H') : Scr K H' p xs := by
  rcases h with ⟨o, h⟩ | h
  · exact .inl ⟨o, s _ _ h⟩
  · exact .inr h
theorem Scr.sx {K : PySem.W.Frag} {H H' : Hp} {p a : Addr} {n : Nat} {xs : List V} (h : Scr K H p xs) (t : Tp H a n) (s : SX a H H') : Scr K H' p xs := by
  rcases h with ⟨o, h⟩ | h
  · refine .inl ⟨o, s.get (fun z => ?_) h⟩
    obtain ⟨x, y, w, e, _⟩ := t
    subst z; rw [e] at h; cases h
  · exact .inr h
end
end L2
namespace L2
open PySem PySem.Spec PyProof.Rows
/-! ### things of a known make: their numbers, their texts, how much they weigh when they are shown -/
mutual
def fine (b : Nat) : PyData → Bool
  | .none => true
  | .bool _ => true
  | .int i => decide (i.natAbs ≤ b)
  | .str x => decide (x.length ≤ 40) && x.cps.toList.all fun c => decide (c < 4294967296)
  | .tuple ds => fineAll b ds
  | .list ds => fineAll b ds
  | .dict _ => false
def fineAll (b : Nat) : List PyData → Bool
  | [] => true
  | d :: ds => fine b d && fineAll b ds
end
mutual
def mass : PyData → Nat
  | .tuple ds => massAll ds + 3
  | .list ds => massAll ds + 3
  | .dict _ => 500
  | .none => 500
  | .bool _ => 500
  | .int _ => 500
  | .str _ => 500
def massAll : List PyData → Nat
  | [] => 0
  | d :: ds => mass d + 2 + massAll ds
end
theorem fineAll_iff {b : Nat} : ∀ {ds : List PyData}, fineAll b ds = true ↔ ∀ d ∈ ds, fine b d = true
  | [] => by simp [fineAll]
  | d :: ds => by
    have ih := fineAll_iff (b := b) (ds := ds)
    simp only [fineAll, Bool.and_eq_true, ih, List.mem_cons, forall_eq_or_imp]
theorem depthAll_iff {k : Nat} : ∀ {ds : List PyData}, PyData.depthAll ds ≤ k ↔ ∀ d ∈ ds, d.depth ≤ k
  | [] => by simp [PyData.depthAll]
  | d :: ds => by
    have ih := depthAll_iff (k := k) (ds := ds)
    simp only [PyData.depthAll, List.mem_cons, forall_eq_or_imp, ← ih]
    omega
theorem massAll_append : ∀ (ds es : List PyData), massAll (ds ++ es) = massAll ds + massAll es
  | [], es => by simp [massAll]
  | d :: ds, es => by simp only [List.cons_append, massAll, massAll_append ds es]; omega
mutual
theorem fine_mono {b b' : Nat} (h : b ≤ b') : ∀ d : PyData, fine b d = true → fine b' d = true
  | .none, _ => by simp [fine]
  | .bool _, _ => by simp [fine]
  | .int i, e => by
    have := of_decide_eq_true (show decide (i.natAbs ≤ b) = true from by simpa [fine] using e)
    simp only [fine]; exact decide_eq_true (by omega)
  | .str x, e => by simpa [fine] using e
  | .tuple ds, e => by simp only [fine] at e ⊢; exact fineAll_mono h ds e
  | .list ds, e => by simp only [fine] at e ⊢; exact fineAll_mono h ds e
  | .dict _, e => by simp [fine] at e
theorem fineAll_mono {b b' : Nat} (h : b ≤ b') : ∀ ds : List PyData, fineAll b ds = true → fineAll b' ds = true
  | [], _ => rfl
  | d :: ds, e => by
    simp only [fineAll, Bool.and_eq_true] at e ⊢
    exact ⟨fine_mono h d e.1, fineAll_mono h ds e.2⟩
end
mutual
theorem fine_shows {b : Nat} (hb : b < 10 ^ 60) : ∀ d : PyData, fine b d = true → d.showable = true ∧ d.hasDict = false ∧ d.shown.length ≤ mass d
  | .none, _ => ⟨rfl, rfl, by decide +kernel⟩
  | .bool c, _ => ⟨rfl, rfl, by cases c <;> decide +kernel⟩
  | .int i, e => by
    have h1 := of_decide_eq_true (show decide (i.natAbs ≤ b) = true from by simpa [fine] using e)
    have h2 : i.natAbs < 10 ^ 60 := Nat.lt_of_le_of_lt h1 hb
    refine ⟨?_, rfl, ?_⟩
    · show decide (i.natAbs.log2 < 1920) = true
      refine decide_eq_true (log2_small (Nat.lt_trans h2 ?_))
      decide +kernel
    · have := int_text_length_le10 (k := 60) (by decide) h2
      show (Str.ofString (toString i)).length ≤ 500
      rw [PySem.ofString_length]; omega
  | .str x, e => by
    have e' : (decide (x.length ≤ 40) && x.cps.toList.all fun c => decide (c < 4294967296)) = true := by simpa [fine] using e
    rw [Bool.and_eq_true] at e'
    have h1 := of_decide_eq_true e'.1
    have h2 := StrLaws.reprText_len x (fun c hc => by have := List.all_eq_true.mp e'.2 c hc; have := of_decide_eq_true this; omega)
    refine ⟨rfl, rfl, ?_⟩
    show (reprText x).length ≤ 500
    omega
  | .tuple ds, e => by
    have e' : fineAll b ds = true := by simpa [fine] using e
    obtain ⟨h1, h2, h3⟩ := fineAll_shows hb ds e'
    refine ⟨by simpa [PyData.showable] using h1, by simpa [PyData.hasDict] using h2, ?_⟩
    have q := tupleText_len_le (PyData.shownAll ds)
    show (tupleText (PyData.shownAll ds)).length ≤ massAll ds + 3
    omega
  | .list ds, e => by
    have e' : fineAll b ds = true := by simpa [fine] using e
    obtain ⟨h1, h2, h3⟩ := fineAll_shows hb ds e'
    refine ⟨by simpa [PyData.showable] using h1, by simpa [PyData.hasDict] using h2, ?_⟩
    have q := listText_len_le (PyData.shownAll ds)
    show (listText (PyData.shownAll ds)).length ≤ massAll ds + 3
    omega
  | .dict _, e => by simp [fine] at e
theorem fineAll_shows {b : Nat} (hb : b < 10 ^ 60) : ∀ ds : List PyData, fineAll b ds = true → PyData.showableAll ds = true ∧ PyData.hasDictAll ds = false ∧ ((PyData.shownAll ds).map (·.length)).sum + 2 * (PyData.shownAll ds).length ≤ massAll ds
  | [], _ => ⟨rfl, rfl, by decide⟩
  | d :: ds, e => by
    have e' : fine b d = true ∧ fineAll b ds = true := by simpa [fineAll] using e
    obtain ⟨h1, h2, h3⟩ := fine_shows hb d e'.1
    obtain ⟨g1, g2, g3⟩ := fineAll_shows hb ds e'.2
    refine ⟨by simp [PyData.showableAll, h1, g1], by simp [PyData.hasDictAll, h2, g2], ?_⟩
    simp only [PyData.shownAll, List.map_cons, List.sum_cons, List.length_cons, massAll]
    omega
end
/-- numbers to b, at most D deep, at most so heavy -/
structure Nice (b D M : Nat) (d : PyData) : Prop where
  f : fine b d = true
  dp : d.depth ≤ D
  m : mass d ≤ M
theorem Nice.mono {b b' D D' M M' : Nat} {d : PyData} (h : Nice b D M d) (h1 : b ≤ b') (h2 : D ≤ D') (h3 : M ≤ M') : Nice b' D' M' d := ⟨fine_mono h1 d h.f, Nat.le_trans h.dp h2, Nat.le_trans h.m h3⟩
/-- lists of things, all at once -/
structure NiceAll (b D M : Nat) (ds : List PyData) : Prop where
  f : ∀ d ∈ ds, fine b d = true
  dp : ∀ d ∈ ds, d.depth ≤ D
  m : massAll ds ≤ M
theorem NiceAll.tup {b D M : Nat} {ds : List PyData} (h : NiceAll b D M ds) : Nice b (D + 1) (M + 3) (.tuple ds) :=
  ⟨by simp only [fine]; exact fineAll_iff.mpr h.f, by simp only [PyData.depth]; have := depthAll_iff.mpr h.dp; omega, by simp only [mass]; have := h.m; omega⟩
theorem NiceAll.lst {b D M : Nat} {ds : List PyData} (h : NiceAll b D M ds) : Nice b (D + 1) (M + 3) (.list ds) :=
  ⟨by simp only [fine]; exact fineAll_iff.mpr h.f, by simp only [PyData.depth]; have := depthAll_iff.mpr h.dp; omega, by simp only [mass]; have := h.m; omega⟩
theorem Nice.parts {b D M : Nat} {ds : List PyData} (h : Nice b D M (.tuple ds)) : NiceAll b (D - 1) (M - 3) ds ∧ 1 ≤ D ∧ 3 ≤ M := by
  have h1 := h.f; have h2 := h.dp; have h3 := h.m
  simp only [fine] at h1
  simp only [PyData.depth] at h2
  simp only [mass] at h3
  exact ⟨⟨fineAll_iff.mp h1, depthAll_iff.mp (by omega), by omega⟩, by omega, by omega⟩
theorem NiceAll.mono {b b' D D' M M' : Nat} {ds : List PyData} (h : NiceAll b D M ds) (h1 : b ≤ b') (h2 : D ≤ D') (h3 : M ≤ M') : NiceAll b' D' M' ds :=
  ⟨fun d hd => fine_mono h1 d (h.f d hd), fun d hd => Nat.le_trans (h.dp d hd) h2, Nat.le_trans h.m h3⟩
theorem NiceAll.append {b D M M' : Nat} {ds es : List PyData} (h : NiceAll b D M ds) (h' : NiceAll b D M' es) : NiceAll b D (M + M') (ds ++ es) := by
  refine ⟨fun d hd => ?_, fun d hd => ?_, by rw [massAll_append]; have := h.m; have := h'.m; omega⟩
  · rcases List.mem_append.mp hd with z | z
    · exact h.f d z
    · exact h'.f d z
  · rcases List.mem_append.mp hd with z | z
    · exact h.dp d z
    · exact h'.dp d z
theorem NiceAll.one {b D M : Nat} {d : PyData} (h : Nice b D M d) : NiceAll b D (M + 2) [d] :=
  ⟨fun x hx => by rw [List.mem_singleton.mp hx]; exact h.f, fun x hx => by rw [List.mem_singleton.mp hx]; exact h.dp, by simp only [massAll]; have := h.m; omega⟩
/-- ds = its part ahead of i, the one at i, its part behind -/
theorem split_at {ds : List PyData} {i : Nat} {d : PyData} (h : ds[i]? = some d) : ds = ds.take i ++ d :: ds.drop (i + 1) := by
  obtain ⟨hi, e⟩ := List.getElem?_eq_some_iff.mp h
  rw [← e]; simp
theorem NiceAll.at {b D M : Nat} {ds : List PyData} {i : Nat} {d : PyData} (h : NiceAll b D M ds) (e : ds[i]? = some d) : ∃ M1 M2 M3, NiceAll b D M1 (ds.take i) ∧ Nice b D M2 d ∧ NiceAll b D M3 (ds.drop (i + 1)) ∧ M1 + (M2 + 2) + M3 ≤ M := by
  have m := h.m
  rw [split_at e, massAll_append] at m
  simp only [massAll] at m
  have hm : d ∈ ds := List.mem_of_getElem? e
  exact ⟨_, _, _, ⟨fun x hx => h.f x (List.mem_of_mem_take hx), fun x hx => h.dp x (List.mem_of_mem_take hx), Nat.le_refl _⟩, ⟨h.f d hm, h.dp d hm, Nat.le_refl _⟩, ⟨fun x hx => h.f x (List.mem_of_mem_drop hx), fun x hx => h.dp x (List.mem_of_mem_drop hx), Nat.le_refl _⟩, by omega⟩
/-! ### a number or a truth, reckoned with -/
section
variable {X : Cx}
end
theorem cut_from {xs : List V} {i : Int} (h : 0 ≤ i) : cutV xs (some i) none = xs.drop i.toNat := by
  obtain ⟨j, rfl⟩ : ∃ j : Nat, i = j := ⟨i.toNat, by omega⟩
  unfold cutV
  rw [HT.sIx_none, HT.sIx_nat, Int.toNat_natCast]
  by_cases q : j ≤ xs.length
  · rw [Nat.min_eq_left q, List.take_of_length_le (by rw [List.length_drop]; omega)]
  · rw [Nat.min_eq_right (by omega), List.drop_length, List.take_nil, List.drop_of_length_le (by omega)]
end L2
namespace L2
open PySem PySem.Spec PyProof.Rows
/-- without dicts, or no tuple at all -/
def NoDT (d : PyData) : Prop := d.hasDict = false ∨ isTup d = false
section
variable {X : Cx}
theorem op_neD (hu : X.A.units + 64 < cLine) : OpR X (compareOp .NotEq) (fun x y H Q => ∃ d e, At H d x ∧ At H e y ∧ d.hasDict = false ∧ e.hasDict = false ∧ d.canLay0 = true ∧ e.canLay0 = true ∧ d.depth ≤ 60 ∧ Q (.bl (!PyData.eqv d e)) H) := by
  refine .mk ?_
  intro pins s σ H x y v u Q I rx ry h
  obtain ⟨d, e, hd, he, n1, n2, c1, c2, dp, q⟩ := h
  obtain ⟨as, r1⟩ := reads_of I.hok _ _ _ hd rx n1
  obtain ⟨bs, r2⟩ := reads_of I.hok _ _ _ he ry n2
  exact SeqAt.compareNe_reads r1 r2 c1 c2 (by have := Nat.min_le_left d.depth e.depth; omega) (fin_bl I q rfl)
end
/-! ### for and comprehensions whose range or tuple is reckoned with a change of the heap -/
def FK (g : TG) (tb : TS) (D : Ends) (σ : St) (vs : List V) (H1 : Hp) : Prop := ∃ j : Int, vs = [.int j] ∧ -(2 ^ 62) ≤ j ∧ j < 2 ^ 62 ∧ ∃ W : Nat → Nat → St → Hp → Prop, (∃ m, W 0 m σ H1) ∧ ∀ i m σ H, W i m σ H →
  ((Itr 0 j.toNat).stop i H ∧ D.nx σ H) ∨ ((Itr 0 j.toNat).go i H ∧ ∃ N : St → Hp → Prop, (∀ σ' H', N σ' H' → ∃ m', m' < m ∧ W (i + 1) m' σ' H') ∧ ∀ x H', (Itr 0 j.toNat).yld i H x H' → g x σ H' fun σ2 H2 => tb { D with nx := N, ct := N, bk := D.nx } σ2 H2)
theorem tFor_rng {ta : TA} {g : TG} {tb : TS} {D : Ends} {σ : St} {H : Hp} : tFor (iRng1 ta) g tb D σ H = ta σ H (FK g tb D σ) := rfl
theorem FK.of {g : TG} {tb : TS} {D : Ends} {σ : St} {H : Hp} {n : Nat} {i : Int} (ei : i = n) (hn : n ≤ 1000000) (Pv : Nat → St → Hp → Prop) (h0 : Pv 0 σ H)
    (hs : ∀ i σ H, i < n → Pv i σ H → g (.int (0 + (i : Nat))) σ H fun σ2 H2 => tb { D with nx := Pv (i + 1), ct := Pv (i + 1), bk := D.nx } σ2 H2) (hd : ∀ σ H, Pv n σ H → D.nx σ H) : FK g tb D σ [.int i] H := by
  subst ei
  refine ⟨n, rfl, by omega, by omega, ?_⟩
  rw [Int.toNat_natCast]
  exact for_range Pv h0 hs hd
def TK (K : PySem.W.Frag) (g : TG) (tb : TS) (D : Ends) (σ : St) (x : V) (H1 : Hp) : Prop := ∃ a, x = .ref a ∧ (∃ xs, SqT K H1 a xs) ∧ ∃ W : Nat → Nat → St → Hp → Prop, (∃ m, W 0 m σ H1) ∧ ∀ i m σ H, W i m σ H →
  ((Itt K a).stop i H ∧ D.nx σ H) ∨ ((Itt K a).go i H ∧ ∃ N : St → Hp → Prop, (∀ σ' H', N σ' H' → ∃ m', m' < m ∧ W (i + 1) m' σ' H') ∧ ∀ x H', (Itt K a).yld i H x H' → g x σ H' fun σ2 H2 => tb { D with nx := N, ct := N, bk := D.nx } σ2 H2)
theorem tFor_tup {K : PySem.W.Frag} {tl : TE} {g : TG} {tb : TS} {D : Ends} {σ : St} {H : Hp} : tFor (iTup K tl) g tb D σ H = tl σ H (TK K g tb D σ) := rfl
theorem TK.of {K : PySem.W.Frag} {g : TG} {tb : TS} {D : Ends} {σ : St} {H : Hp} {a : Addr} {xs : List V} (ha : H a = some (.tup xs)) (Pv : Nat → St → Hp → Prop) (h0 : Pv 0 σ H) (hl : ∀ i σ H', i ≤ xs.length → Pv i σ H' → H' a = some (.tup xs))
    (hs : ∀ i x σ H, xs[i]? = some x → Pv i σ H → g x σ H fun σ2 H2 => tb { D with nx := Pv (i + 1), ct := Pv (i + 1), bk := D.nx } σ2 H2) (hd : ∀ σ H, Pv xs.length σ H → D.nx σ H) : TK K g tb D σ (.ref a) H :=
  ⟨a, rfl, ⟨xs, SqT.of ha⟩, for_tup (xs := xs) Pv h0 (fun i σ H' hi p => SqT.of (hl i σ H' hi p)) hs hd⟩
def CK (js : List Nat) (te : TE) (σ : St) (Q : VK) (vs : List V) (H1 : Hp) : Prop := ∃ j : Int, vs = [.int j] ∧ -(2 ^ 62) ≤ j ∧ j < 2 ^ 62 ∧ ∀ acc, H1 acc = none → ∃ W : Nat → Nat → List V → Hp → Prop, (∃ m, W 0 m [] (upd H1 acc (.lst []))) ∧ ∀ i m ys H2, W i m ys H2 →
  ((Itr 0 j.toNat).stop i H2 ∧ Q (.ref acc) H2) ∨ ((Itr 0 j.toNat).go i H2 ∧ ∀ x H3, (Itr 0 j.toNat).yld i H2 x H3 → te (some x :: capS js σ) H3 fun y H4 => H4 acc = some (.lst ys) ∧ ys.length < sizeLine ∧ ∃ m', m' < m ∧ W (i + 1) m' (ys ++ [y]) (upd H4 acc (.lst (ys ++ [y]))))
theorem tComp_rng {js : List Nat} {ta : TA} {te : TE} {σ : St} {H : Hp} {Q : VK} : tComp js (iRng1 ta) te σ H Q = ta σ H (CK js te σ Q) := rfl
theorem CK.of {js : List Nat} {te : TE} {σ : St} {H : Hp} {Q : VK} {n : Nat} {i : Int} (ei : i = n) (hn : n ≤ 1000000)
    (h : ∀ acc, H acc = none → ∃ Pv : Nat → List V → Hp → Prop, Pv 0 [] (upd H acc (.lst [])) ∧
      (∀ i ys H', i < n → Pv i ys H' → te (some (.int (0 + (i : Nat))) :: capS js σ) H' fun y H'' => H'' acc = some (.lst ys) ∧ ys.length < sizeLine ∧ Pv (i + 1) (ys ++ [y]) (upd H'' acc (.lst (ys ++ [y])))) ∧
      ∀ ys H', Pv n ys H' → Q (.ref acc) H') : CK js te σ Q [.int i] H := by
  subst ei
  have := comp_R (ta := fun _ H R => R [.int n] H) (σ := σ) (H := H) (Q := Q) (js := js) (te := te) (n := n) (fun R hR => hR) hn h
  exact this
end L2
namespace L2
open PySem PySem.Spec PyProof.Rows
def Gs (mg : Str → Option Value) (x : Str) (i : Str) : Prop := ∃ t, mg x = some (.str i t)
theorem pglobS {X : Cx} {x : Str} {i : Str} {pos : Pos} (h : Gs X.mg x i) (hg : Gl X x := by rfl) (hd : (x == ("__debug__" : Str)) = false := by decide) : PE X (.Name x pos) (tC (.str i)) := by
  obtain ⟨t, ht⟩ := h
  exact pe_glob hg ht ⟨t, rfl⟩ hd
/-- a callee that tells a truth of things without dicts, or of no tuples -/
def spN (f : PyData → Bool) : Sp := fun vs H Q _ => ∃ v d, vs = [v] ∧ At H d v ∧ NoDT d ∧ ∀ H', Same H H' → Q (.bl (f d)) H'
theorem spN.len {f : PyData → Bool} {ps : List Str} (h : ps.length = 1) : ∀ vs H Q E, spN f vs H Q E → vs.length = ps.length := by rintro vs H Q E ⟨v, d, rfl, _⟩; exact h.symm
theorem N1.of {f : PyData → Bool} {v : V} {d : PyData} {H : Hp} {Q : VK} {E : XK} (h : At H d v) (n : NoDT d) (q : ∀ H', Same H H' → Q (.bl (f d)) H') : spN f ([v] ++ []) H Q E := ⟨v, d, rfl, h, n, q⟩
theorem hasDict_parts : ∀ {ds : List PyData}, PyData.hasDictAll ds = false → ∀ d ∈ ds, d.hasDict = false
  | d :: ds, h, x, hx => by
    have h' : d.hasDict = false ∧ PyData.hasDictAll ds = false := by simpa [PyData.hasDictAll] using h
    rcases List.mem_cons.mp hx with e | e
    · subst e; exact h'.1
    · exact hasDict_parts h'.2 x e
theorem NoDT.parts {ds : List PyData} (h : NoDT (.tuple ds)) : ∀ d ∈ ds, d.hasDict = false := by
  rcases h with h | h
  · exact hasDict_parts (by simpa [PyData.hasDict] using h)
  · cases h
end L2
namespace L2
open PySem PySem.Spec PyProof.Rows
/-! ### max(numbers, default=d) -/
def maxI (b : Int) : List Int → Int
  | [] => b
  | x :: r => maxI (if x > b then x else b) r
section
variable {prog : Program} {w : World} {A : Around} {R : Result → Shared → Prop} {It : Addr} {fp wr : List Addr} {n : Nat} {Pv : Nat → Value → Prop} {St : Nat → Heap → Prop}
end
section
variable {prog : Program} {w : World} {A : Around} {E : Value → Shared → Prop} {s : Shared}
end
end L2
namespace L2
open PySem PySem.Spec PyProof.Rows
section
variable {X : Cx}
def tMaxD (t : TA) (te : TE) : TE := fun σ H Q => t σ H fun vs H1 => te σ H1 fun y H2 => ∃ (p : Addr) (ns : List Int), vs = [.ref p] ∧ H2 p = some (.lst (ns.map V.int)) ∧ (ns = [] → Q y H2) ∧ ∀ b r, ns = b :: r → Q (.int (maxI b r)) H2
end
end L2
namespace L2
open PySem PySem.Spec PyProof.Rows
def whatIx (t : Str) : Nat := if (("come" : Str) == t) = true then 0 else if (("done" : Str) == t) = true then 1 else 2
section
variable {X : Cx}
def tGT2 (K : PySem.W.Frag) (W : List V) : TE := fun _ H Q => ∀ a, (∃ o, K.lookup a = some o ∧ o.cls = .type "tuple" ∧ o.dict = none) → (∀ H', SqT K H' a W) → Q (.ref a) H
end
end L2
namespace L2
open PySem PySem.Spec PyProof.Rows
theorem comp_core {X : Cx} {elt iter : Expr} {x : Str} {px pos : Pos} {sc : Scope} {wi : TI} {te : TE} {N' : List Str} {js : List Nat} {use : Option (Value → Sem Unit)} {Qc : Value → Shared → Prop} {pins : List (Addr × Obj)} {s : Shared} {σ : St} {H : Hp} {Q : VK} {kp : Pos} (hc : X.calm = true) (hi : PI X (.Name x px) iter wi) (S : CSc X N' js sc) (h0 : N'[0]? = some x) (nd : N'.Nodup)
    (hx : sc.names.lookup x = some .local) (he : ∀ fp s H, PE (cxC X N' sc fp s H) elt te) (hs : ∀ x, foldedSetIterable iter X.env x = pure x) (I : Inv X pins σ H s) (h : tComp js wi te σ H Q)
    (fin : ∀ (acc C : Addr) (H' : Hp) (s' : Shared), Inv X pins σ H' s' → FpOk X pins H' C → (∃ m, s'.heap.Ns C m) → Q (.ref acc) H' → compPost (model X.prog X.w) X.A X.xe use Qc (.ref acc) C (.ok .next) s') :
    wpAny (model X.prog X.w) X.A (comprehension (.ListComp elt [⟨.Name x px, iter, [], 0⟩] sc pos) sc X.env kp (newList []) false (eval iter X.env) use) Qc X.xe s := by
  refine wpAny_comprehension_free (use := use) rfl hs S.clos S.kind S.names ?_
  refine thn (hi pins s σ H _ I h) fun v s1 q1 => thn q1 fun itv s2 q2 => ?_
  obtain ⟨it, fp, tn, J, H2, e, I2, T, st2, f2, q3⟩ := q2
  subst e
  refine wpAny_newObj_type ?_
  obtain ⟨W, ⟨m0, w0⟩, turn⟩ := q3 s2.heap.objs.size I2.fresh
  have I3 := I2.lnew (ys := []) (its := []) (t' := s2.toks) .nil (Nat.zero_le _)
  have lt2 : ∀ b ∈ fp, b < s2.heap.objs.size := fun b hb => by
    obtain ⟨o, ho, _⟩ := T.obj 0 _ st2 b hb
    exact Heap.lt_size ho
  generalize e3 : ({ s2 with heap := s2.heap.push { cls := .type "list", data := .seq ([] : List Value).toArray }, toks := s2.toks } : Shared) = s3 at I3
  have e3' : ({ s2 with heap := s2.heap.push { cls := .type "list", dict := none, data := .seq ([] : List Value).toArray } } : Shared) = s3 := e3
  have sz3 : s3.heap.objs.size = s2.heap.objs.size + 1 := by rw [← e3]; exact Heap.size_push ..
  have st3 : tn 0 s3.heap := T.keep 0 _ _ st2 fun b hb o ho => by rw [← e3]; exact Heap.get?_push_of_some _ ho
  have lt3 : ∀ b ∈ fp, b < s3.heap.objs.size := fun b hb => by rw [sz3]; exact Nat.lt_succ_of_lt (lt2 b hb)
  have f3 : ∀ b ∈ fp, FpOk X pins (upd H2 s2.heap.objs.size (.lst [])) b := fun b hb => ⟨by rw [upd_ne (Nat.ne_of_lt (lt2 b hb))]; exact (f2 b hb).1, (f2 b hb).2⟩
  generalize hH3 : upd H2 s2.heap.objs.size (.lst []) = H3 at I3 f3 w0
  refine wpAny_newFunctionEnv S.nocell (by intro y hy; simp at hy) (fun h1 hns hsb => ?_) S.kind
  have hk : ∀ b o, s3.heap.get? b = some o → h1.get? b = some o := fun b o q => hsb.extBut b o (Nat.ne_of_lt (Heap.lt_size q)) (Heap.get?_push_of_some _ q)
  have hns' : h1.Ns s3.heap.objs.size fun _ => none := hns
  have I4 : Inv (cxC X N' sc fp s3 H3) [] (none :: capS js σ) H3 { s3 with heap := h1, toks := s3.toks + ([] : List (Str × Value)).length } := inv_comp I3 f3 lt3 S hns' hk
  have st4 : tn 0 h1 := T.keep 0 _ _ st3 fun b hb o ho => hk b o ho
  have stat : ∀ {H' : Hp}, (∀ b ∈ fp, H' b = none) → ∀ b ∈ fp, FpOk (cxC X N' sc fp s3 H3) [] H' b := fun hn b hb => ⟨hn b hb, Nat.ne_of_lt (lt3 b hb), I4.ok.exfs b hb, .inl hb, (I4.ok.exf b hb).2, fun p hp => absurd (show p ∈ ([] : List (Addr × Obj)) from hp) (by simp)⟩
  have lx : Loc (cxC X N' sc fp s3 H3).env.scope x := .inl (lookup_relabel_local hx)
  -- the way out
  have out : ∀ {σ' : St} {H' : Hp} {s' : Shared}, Inv (cxC X N' sc fp s3 H3) [] σ' H' s' → Q (.ref s2.heap.objs.size) H' → compPost (model X.prog X.w) X.A X.xe use Qc (.ref s2.heap.objs.size) s3.heap.objs.size (.ok .next) s' := by
    intro σ' H' s' I' q'
    obtain ⟨m, hn, _⟩ := id I'.loc
    have I5 : Inv X pins σ H' s' := I3.call' I'.os I'.base I'.hok I'.bare fun b hb => ⟨(f3 b hb).2.2.2.1, (f3 b hb).2.1, (f3 b hb).2.2.2.2.1, (f3 b hb).2.2.2.2.2⟩
    exact fin _ _ H' s' I5 (I3.fpOk (Nat.le_refl _) I'.free) ⟨m, hn⟩ q'
  have loop : ∀ s4 : Shared, s4 = { s3 with heap := h1, toks := s3.toks + ([] : List (Str × Value)).length } → codeAny (model X.prog X.w) X.A (.compLoop (.ListComp elt [⟨.Name x px, iter, [], 0⟩] sc pos) 0 (.ref it) (.ref s2.heap.objs.size) (compEnvC sc (clOf sc X.env) s3.heap.objs.size X.env))
      (compPost (model X.prog X.w) X.A X.xe use Qc (.ref s2.heap.objs.size) s3.heap.objs.size) s4 := by
    rintro s4 rfl
    refine compLoop_go (fun n s' => ∃ i ys H', Inv (cxC X N' sc fp s3 H3) [] (none :: capS js σ) H' s' ∧ tn i s'.heap ∧ (∀ b ∈ fp, H' b = none) ∧ W i n ys H') ?_ m0 ⟨0, [], H3, I4, st4, fun b hb => (f3 b hb).1, w0⟩
    rintro n s5 ⟨i, ys, H5, I5, st5, fr5, w5⟩
    rcases turn i n ys H5 w5 with ⟨stop, qn⟩ | ⟨go, step⟩
    · refine thn (T.done (cxC X N' sc fp s3 H3) rfl rfl rfl hc i [] s5 _ H5 (fun _ _ => False) I5 (stat fr5) st5 stop) fun r s6 ⟨hr, I6⟩ => ?_
      subst hr
      exact out I6 qn
    · refine thn (T.item (cxC X N' sc fp s3 H3) rfl rfl rfl hc i [] s5 _ H5 (fun _ _ => False) I5 (stat fr5) st5 go) fun r s6 ⟨u, hr, q6⟩ => ?_
      subst hr
      refine thn q6 fun _ s7 ⟨y, H7, I7, r7, y7, st7, fr7⟩ => ?_
      have I7' := I7.pinned (stat fr7) (T.obj _ _ st7)
      have hg : PG (cxC X N' sc fp s3 H3) (.Name x px) (gName 0) := pg_name nd h0 lx (.inr (lookup_relabel_local hx))
      refine thn (hg _ s7 _ H7 y u (fun σ' H' => σ' = some y :: capS js σ ∧ H' = H7) I7' r7 ⟨rfl, rfl⟩) fun _ s8 ⟨σ8, H8, I8, e8, e8'⟩ => ?_
      subst e8 e8'
      refine thn (he fp s3 H3 _ s8 _ _ _ I8 (step y _ y7)) fun z s9 ⟨vz, H9, I9, r9, ha, hz, m', hm, w9⟩ => ?_
      refine thn (mt_append (X := cxC X N' sc fp s3 H3) _ s9 _ H9 (.ref s2.heap.objs.size) [vz] (.ref s2.heap.objs.size) [z] (fun _ H' => H' = upd H9 s2.heap.objs.size (.lst (ys ++ [vz]))) I9 rfl (.cons r9 .nil) ⟨_, ys, vz, rfl, rfl, ha, hz, rfl⟩) fun _ s10 ⟨_, H10, I10, _, e10⟩ => ?_
      subst e10
      refine ⟨m', hm, i + 1, ys ++ [vz], _, (I10.unpinned).weak rfl fun k v e => ?_, T.keep _ _ _ st7 fun b hb o e => (I10.pin (b, o) (List.mem_append_right _ (List.mem_append_right _ (mem_pinsAt hb e)))).1, fun b hb => ?_, w9⟩
      · cases k with
        | zero => simp at e
        | succ k => simpa using e
      · obtain ⟨o, e, d⟩ := T.obj _ _ st7 b hb
        exact (I10.pin (b, o) (List.mem_append_right _ (List.mem_append_right _ (mem_pinsAt hb e)))).2.1
  exact codeAny_compStart_list (loop _ rfl) (T.self X.A 0 _ _ _ st4 (loop _ rfl))

theorem ps_comp {X : Cx} {elt iter : Expr} {x y : Str} {px py pos spos : Pos} {sc : Scope} {wi : TI} {te : TE} {N' : List Str} {js : List Nat} {i : Nat} (hN : X.N.Nodup) (hi' : X.N[i]? = some y) (hy : Loc X.env.scope y) (hc : X.calm = true) (hi : PI X (.Name x px) iter wi) (S : CSc X N' js sc) (h0 : N'[0]? = some x) (nd : N'.Nodup)
    (hx : sc.names.lookup x = some .local) (he : ∀ fp s H, PE (cxC X N' sc fp s H) elt te) (hs : ∀ x, foldedSetIterable iter X.env x = pure x := by intro _; rfl) (hw : swapsWith (.ListComp elt [⟨.Name x px, iter, [], 0⟩] sc pos) (some (.Name y py)) spos.line X.env = pure true := by rfl)
    (hf : X.fn y = true ∨ X.env.scope.names.lookup y = some .local := by first | exact .inl rfl | exact .inr rfl | assumption) :
    PS X (.Assign [.Name y py] (.ListComp elt [⟨.Name x px, iter, [], 0⟩] sc pos) spos) (tAsg (tComp js wi te) (gName i)) := by
  refine .mk ?_
  intro pins s σ H D I h
  rw [exec_Assign_Name_used _ _ _ _ hw]
  refine wpAny_bind (wpAny_standAt (wpAny_bind ?_))
  refine wpAny_bind (comp_core hc hi S h0 nd hx he hs I h fun acc C H' s' I5 fc ⟨m, hn⟩ q => ?_)
  have ho : ∀ b ∈ [C], ∃ o, s'.heap.get? b = some o ∧ ∀ v, o.data ≠ .cell v := fun b hb => by
    rw [List.mem_singleton.mp hb]
    obtain ⟨o, es, n, e, ed, _⟩ := hn
    exact ⟨o, e, fun v z => by rw [ed] at z; cases z⟩
  have I6 := I5.pinned (fp := [C]) (fun b hb => by rw [List.mem_singleton.mp hb]; exact fc) ho
  have hg : PG X (.Name y py) (gName i) := pg_name hN hi' hy hf
  show wpAny _ _ (assign (.Name y py) X.env (.ref acc)) (fun _ s'' => ∃ m, s''.heap.Ns C m ∧ ∀ h', Heap.SameBut C s''.heap h' → _) _ s'
  refine thn (hg _ s' _ H' (.ref acc) (.ref acc) _ I6 rfl q) fun _ s7 ⟨σ7, H7, I7, q7⟩ => ?_
  have pc : ∀ o, s'.heap.get? C = some o → s7.heap.get? C = some o ∧ H7 C = none := fun o e => by
    have := I7.pin (C, o) (List.mem_append_right _ (List.mem_append_right _ (mem_pinsAt (by simp) e)))
    exact ⟨this.1, this.2.1⟩
  refine ⟨m, hn.at fun o e => (pc o e).1, fun h' sb => wpAny_pure (wpAny_pure ⟨σ7, H7, ?_, q7⟩)⟩
  have fr : H7 C = none := by
    obtain ⟨o, es, n, e, ed, _⟩ := hn
    exact (pc o e).2
  exact I7.unpinned.turned (it := C) (t' := s7.toks) (fun b o hb e => sb.extBut b o hb e) fr fc.2.1 fc.2.2.2.1 fc.2.2.2.2.1 fc.2.2.2.2.2
end L2
namespace L2
open PySem PySem.Spec PyProof.Rows
section
variable {X : Cx} {pos : Pos}
/-- a, b, c = x, y, z with plain local names -/
def tPar3 (i j l : Nat) (ta : TA) : TS := fun D σ H => ta σ H fun vs H1 => ∃ v w z, vs = [v, w, z] ∧ D.nx (((σ.set l (some z)).set j (some w)).set i (some v)) H1
end
end L2
namespace L2
open PySem PySem.Spec PyProof.Rows
/-! ### enumerate over a list -/
theorem Inv.turned2 {X : Cx} {pins : List (Addr × Obj)} {σ : St} {H : Hp} {s : Shared} {h' : Heap} {t' : Nat} {e it : Addr} (I : Inv X pins σ H s) (k : ∀ b o, b ≠ e → b ≠ it → s.heap.get? b = some o → h'.get? b = some o) (fe : FpOk X pins H e) (fi : FpOk X pins H it) :
    Inv X pins σ H { s with heap := h', toks := t' } := by
  have k2 : ∀ b o, b ∉ [e, it] → s.heap.get? b = some o → h'.get? b = some o := fun b o hb q => k b o (fun z => hb (by simp [z])) (fun z => hb (by simp [z])) q
  have fp : ∀ b ∈ [e, it], FpOk X pins H b := fun b hb => by
    rcases List.mem_cons.mp hb with z | z
    · rw [z]; exact fe
    · rw [List.mem_singleton.mp z]; exact fi
  have ni : ∀ b u, H b = some u → b ∉ [e, it] := fun b u q hb => by rw [(fp b hb).1] at q; cases q
  refine I.step (g' := s.gens) (d' := s.drawn) (ch := [e, it]) (fun b hb => ?_) (fun b o _ _ hc q _ => k2 b o hc q) (fun b o _ _ hc q _ => ⟨o.slots, k2 b o hc q⟩) (fun _ _ _ _ n => n) (fun b o hc q => ⟨o, k2 b o hc q⟩) (fun _ _ q => q) (fun _ _ _ q => q)
    (fun b ps q => ⟨#[], by rw [q]; simp⟩) (fun m hm => ?_) (fun b u q => ?_) I.bare
  · obtain ⟨_, f1, _, f3, f4, f5⟩ := fp b hb
    exact ⟨f3, f1, f4, f5⟩
  · obtain ⟨o, es, ep, ho, r⟩ := hm
    refine ⟨o, es, ep, k2 _ o (fun hb => (fp _ hb).2.1 rfl) ho, r⟩
  · refine (I.hok b u q).stay (fun c v hc z => k2 c v ?_ z) (fun _ z => z) fun _ _ z => z
    rcases hc with z | z
    · rw [z]; exact ni b u q
    · exact ni c _ z
def Ite (K : PySem.W.Frag) (a : Addr) : It :=
  ⟨fun i H => ∃ xs x, SqL K H a xs ∧ xs[i]? = some x, fun i H x H' => ∃ p y, H p = none ∧ x = .ref p ∧ H' = upd H p (.tup [.int i, y]) ∧ ∀ xs, SqL K H a xs → xs[i]? = some y, fun i H => ∃ xs, SqL K H a xs ∧ xs.length ≤ i⟩
theorem turn_enum {P : Program} {w : World} {K : PySem.W.Frag} {elts : List Expr} {x1} {tp : Pos} (a e it : Addr) (hne : e ≠ it) : Turn P w K (.Tuple elts x1 tp) (Ite K a) [e, it] e (fun i h => (∃ old, IsEnum h e it (i : Nat) old) ∧ h.IsListIter it a i) where
  mem := by simp
  obj := fun i h st b hb => by
    obtain ⟨⟨old, he⟩, o, ho, c, d⟩ := st
    rcases List.mem_cons.mp hb with z | z
    · rw [z]; exact ⟨_, he, fun v q => by cases q⟩
    · rw [List.mem_singleton.mp z]; exact ⟨o, ho, fun v q => by rw [d] at q; cases q⟩
  keep := fun i h h' st k => by
    obtain ⟨⟨old, he⟩, hi⟩ := st
    exact ⟨⟨old, k e (by simp) _ he⟩, hi.at fun o q => k it (by simp) o q⟩
  item := by
    intro X hP hw hK hc i pins s σ H E I hf st hg
    subst hP hw hK
    obtain ⟨⟨old, he⟩, hi⟩ := st
    obtain ⟨xs, x, hq, hx⟩ := hg
    obtain ⟨its, rv, p, hz⟩ := I.list hq
    obtain ⟨u, hu, ru⟩ := rv.get hx
    have fe := hf e (by simp)
    have fi := hf it (by simp)
    refine wpAny_pyNext_enum_item he hi p.isList (x := u) (by simpa using hu) hne fun h' eo hi' ht hsz kk => ?_
    have fr : H s.heap.objs.size = none := I.hok.fresh (Nat.le_refl _)
    have I1 : Inv X pins σ (upd H s.heap.objs.size (.tup [.int i, x])) { s with heap := s.heap.push { cls := .type "tuple", data := .seq #[.int i s.toks, u] }, toks := s.toks } :=
      I.laid (t' := s.toks) (fun b v q => Heap.get?_push_of_some _ q) (Nat.le_refl _) ⟨(by show 2 ≤ sizeLine; decide), [.int i s.toks, u], .cons ⟨_, rfl⟩ (.cons ru .nil), ⟨_, Heap.get?_push_size _ rfl, rfl, _, rfl⟩⟩
    have ee : e < s.heap.objs.size := Heap.lt_size he
    have ei : it < s.heap.objs.size := by obtain ⟨o, ho, _⟩ := hi; exact Heap.lt_size ho
    have fe1 : FpOk X pins (upd H s.heap.objs.size (.tup [.int i, x])) e := ⟨by rw [upd_ne (Nat.ne_of_lt ee)]; exact fe.1, fe.2⟩
    have fi1 : FpOk X pins (upd H s.heap.objs.size (.tup [.int i, x])) it := ⟨by rw [upd_ne (Nat.ne_of_lt ei)]; exact fi.1, fi.2⟩
    have I2 : Inv X pins σ (upd H s.heap.objs.size (.tup [.int i, x])) { s with heap := h', toks := s.toks + 1 } := I1.turned2 (t' := s.toks + 1) (fun b o h1 h2 q => by
      by_cases z : b = s.heap.objs.size
      · subst z
        rw [Heap.get?_push_size _ rfl] at q
        cases q
        exact ht
      · rcases Heap.get?_push_cases q with w | w
        · exact absurd w.1 z
        · exact kk b o h1 h2 w) fe1 fi1
    refine ⟨_, rfl, wpAny_letOwnedTupleGo_enum eo fun h'' en sb => ⟨.ref s.heap.objs.size, _, I2.turned (it := e) (t' := s.toks + 1) (fun b o hb q => sb.extBut b o hb q) fe1.1 fe1.2.1 fe1.2.2.2.1 fe1.2.2.2.2.1 fe1.2.2.2.2.2, rfl, ⟨_, x, fr, rfl, rfl, fun ys hy => by rw [I.list_inj hy hq]; exact hx⟩, ⟨⟨_, en⟩, ?_⟩, fun b hb => ?_⟩⟩
    · exact hi'.at fun o q => sb.extBut it o (Ne.symm hne) q
    · rcases List.mem_cons.mp hb with z | z
      · rw [z]; exact fe1.1
      · rw [List.mem_singleton.mp z]; exact fi1.1
  done := by
    intro X hP hw hK hc i pins s σ H E I hf st hg
    subst hP hw hK
    obtain ⟨⟨old, he⟩, hi⟩ := st
    obtain ⟨xs, hq, hx⟩ := hg
    obtain ⟨its, rv, p, hz⟩ := I.list hq
    have hl := rv.length
    obtain ⟨f0, f1, f2, f3, f4, f5⟩ := hf it (by simp)
    exact wpAny_pyNext_enum_end (I.ok.hd hc) he hi p.isList (by simp; omega) fun h' eb => ⟨rfl, I.turned (t' := s.toks) (fun b o hb q => eb b o hb q) f0 f1 f3 f4 f5⟩
  self := fun _ _ _ _ _ st h => by
    obtain ⟨⟨old, he⟩, _⟩ := st
    exact wpAny_pyIter_enum he h
section
variable {X : Cx}
def iEnum (K : PySem.W.Frag) (ta : TA) : TI := fun σ H R => ta σ H fun vs H1 => ∃ a, vs = [.ref a] ∧ (∃ xs, SqL K H1 a xs) ∧ R (Ite K a) H1
theorem pi_enum {K : PySem.W.Frag} {e : Expr} {elts : List Expr} {x1} {tp p pos : Pos} {ta : TA} (hK : X.K = K) (hm : X.mg "enumerate" = none) (ha : PA X [e] ta) (hg : Gl X "enumerate" := by rfl) (h1 : plainE e = true := by rfl) :
    PI X (.Tuple elts x1 tp) (.Call (.Name "enumerate" p) [e] [] pos) (iEnum K ta) := by
  subst hK
  refine .mk ?_
  intro pins s σ H R I h
  refine wpAny_Call_Name_kw (ld_blt I hg hm bt_enumerate ?_ (by decide) (by decide))
  refine PyProof.Rows.callWith_type1 (thn (ha pos pins s σ H _ I h) fun us s1 ⟨vs, H1, I1, r1, q1⟩ => ?_) (star_one h1) (star_none (es := []) rfl)
  obtain ⟨a, rfl, ⟨xs, hq⟩, q⟩ := q1
  obtain ⟨u, rfl, ru⟩ := r1.one
  cases ru
  obtain ⟨its, rv, pl, hz⟩ := I1.list hq
  refine call_enumerate_list pl.isList fun h' he hi hsz kk => ?_
  have I2 : Inv X pins σ H1 { s1 with heap := h' } := I1.kept (t' := s1.toks) kk
  have f1 : H1 (s1.heap.objs.size + 1) = none := I1.hok.fresh (Nat.le_succ _)
  have f0 : H1 s1.heap.objs.size = none := I1.hok.fresh (Nat.le_refl _)
  refine wpAny_pyIter_enum he ⟨s1.heap.objs.size + 1, _, _, Ite X.K a, H1, rfl, I2, turn_enum a (s1.heap.objs.size + 1) s1.heap.objs.size (Nat.succ_ne_self _), ⟨⟨_, he⟩, hi⟩, fun b hb => ?_, q⟩
  rcases List.mem_cons.mp hb with z | z
  · rw [z]; exact I1.fpOk (Nat.le_succ _) f1
  · rw [List.mem_singleton.mp z]; exact I1.fpOk (Nat.le_refl _) f0
/-- for k, x in enumerate(list), the list as it stands -/
def EK (K : PySem.W.Frag) (g : TG) (tb : TS) (D : Ends) (σ : St) (vs : List V) (H1 : Hp) : Prop := ∃ a, vs = [.ref a] ∧ (∃ xs, SqL K H1 a xs) ∧ ∃ W : Nat → Nat → St → Hp → Prop, (∃ m, W 0 m σ H1) ∧ ∀ i m σ H, W i m σ H →
  ((Ite K a).stop i H ∧ D.nx σ H) ∨ ((Ite K a).go i H ∧ ∃ N : St → Hp → Prop, (∀ σ' H', N σ' H' → ∃ m', m' < m ∧ W (i + 1) m' σ' H') ∧ ∀ x H', (Ite K a).yld i H x H' → g x σ H' fun σ2 H2 => tb { D with nx := N, ct := N, bk := D.nx } σ2 H2)
theorem tFor_enum {K : PySem.W.Frag} {ta : TA} {g : TG} {tb : TS} {D : Ends} {σ : St} {H : Hp} : tFor (iEnum K ta) g tb D σ H = ta σ H (EK K g tb D σ) := rfl
theorem EK.of {K : PySem.W.Frag} {g : TG} {tb : TS} {D : Ends} {σ : St} {H : Hp} {a : Addr} {xs : List V} (ha : H a = some (.lst xs)) (Pv : Nat → St → Hp → Prop) (h0 : Pv 0 σ H) (hl : ∀ i σ H', i ≤ xs.length → Pv i σ H' → H' a = some (.lst xs))
    (hs : ∀ i x σ H p, xs[i]? = some x → Pv i σ H → H p = none → g (.ref p) σ (upd H p (.tup [.int (i : Nat), x])) fun σ2 H2 => tb { D with nx := Pv (i + 1), ct := Pv (i + 1), bk := D.nx } σ2 H2) (hd : ∀ σ H, Pv xs.length σ H → D.nx σ H) : EK K g tb D σ [.ref a] H := by
  refine ⟨a, rfl, ⟨xs, SqL.of ha⟩, fun i m σ H => m = xs.length - i ∧ i ≤ xs.length ∧ Pv i σ H, ⟨_, rfl, Nat.zero_le _, h0⟩, ?_⟩
  rintro i m σ H ⟨rfl, hi, p⟩
  have q : SqL K H a xs := SqL.of (hl i σ H hi p)
  by_cases hlt : i < xs.length
  · refine .inr ⟨⟨xs, xs[i], q, List.getElem?_eq_getElem hlt⟩, Pv (i + 1), fun σ' H' p' => ⟨xs.length - (i + 1), by omega, rfl, hlt, p'⟩, fun x H' y => ?_⟩
    obtain ⟨t, z, ht, rfl, rfl, hz⟩ := y
    exact hs i z σ H t (hz xs q) p ht
  · have e : i = xs.length := by omega
    subst e
    exact .inl ⟨⟨xs, q, Nat.le_refl _⟩, hd σ H p⟩
end
end L2
namespace L2
open PySem PySem.Spec PyProof.Rows
/-! ### max of a list of numbers, at least one; a list of a list -/
section
variable {X : Cx}
theorem call_lstL : CallR X (.type "list") (fun vs H Q => ∃ (p : Addr) (ys : List V), vs = [.ref p] ∧ H p = some (.lst ys) ∧ ∀ l, H l = none → Q (.ref l) (upd H l (.lst ys))) := by
  refine .mk ?_
  intro pins s σ H vs us Q I r h
  obtain ⟨p, ys, e, hp, q⟩ := h
  exact call_list_of pins s σ H vs us Q I r ⟨p, ys, e, .inl (SqL.of hp), q⟩
theorem pe_bmK {K : PySem.W.Frag} {o e : Expr} {es : List Expr} {to : TE} {t : TA} {name : Str} {apos cpos : Pos} {T id : String} {r : V → List V → Hp → VK → Prop} (hK : X.K = K) (pa : PlainAttrs T) (slot : Slot T name id) (hty : typeOf (.builtin id) = pure (.type "method_descriptor")) (hm : MtR X id r) (ho : PE X o to) (ha : PA X (e :: es) t)
    (hbase : attributeBase o name X.env (eval o X.env) = eval o X.env := by rfl)
    (hfew : ((backTo cpos (starEach (e :: es) X.env)).all (fun x => !x.1) && (backToKw cpos (keywordEach [] X.env)).all (fun x => x.1.isSome) && decide ((e :: es).length + ([] : List Keyword).length + (if ([] : List Keyword).isEmpty then 0 else 1) < 30)) = true := by rfl)
    (hline : (apos.endLine == cpos.line) = true := by rfl) (hs : starEach (e :: es) X.env = (false, eval e X.env) :: starEach es X.env := by rfl) (hplain : (backTo cpos (starEach es X.env)).any (·.1) = false := by rfl) : PE X (.Call (.Attribute o name apos) (e :: es) [] cpos) (tBM K T r to t) := by
  subst hK
  exact pe_bm pa slot hty hm ho ha hbase hfew hline hs hplain
end
end L2
namespace L2
open PySem PySem.Spec PyProof.Rows
/-! ### for k in reversed(range(n)) -/
section
variable {prog : Program} {w : World} {A : Around} {E : Value → Shared → Prop} {s : Shared}
end
/-- n - 1, n - 2, .., 0 -/
def Itv (n : Nat) : It := ⟨fun i _ => i < n, fun i H x H' => H' = H ∧ x = .int ((n : Int) - 1 - i), fun i _ => n ≤ i⟩
section
variable {X : Cx}
/-- for k in reversed(range(n)), by an invariant -/
def VK' (g : TG) (tb : TS) (D : Ends) (σ : St) (vs : List V) (H1 : Hp) : Prop := ∃ n : Nat, vs = [.int n] ∧ n ≤ 1000000 ∧ ∃ W : Nat → Nat → St → Hp → Prop, (∃ m, W 0 m σ H1) ∧ ∀ i m σ H, W i m σ H →
  ((Itv n).stop i H ∧ D.nx σ H) ∨ ((Itv n).go i H ∧ ∃ N : St → Hp → Prop, (∀ σ' H', N σ' H' → ∃ m', m' < m ∧ W (i + 1) m' σ' H') ∧ ∀ x H', (Itv n).yld i H x H' → g x σ H' fun σ2 H2 => tb { D with nx := N, ct := N, bk := D.nx } σ2 H2)
theorem VK'.of {g : TG} {tb : TS} {D : Ends} {σ : St} {H : Hp} {n : Nat} {i : Int} (ei : i = n) (hn : n ≤ 1000000) (Pv : Nat → St → Hp → Prop) (h0 : Pv 0 σ H)
    (hs : ∀ i σ H, i < n → Pv i σ H → g (.int ((n : Int) - 1 - (i : Nat))) σ H fun σ2 H2 => tb { D with nx := Pv (i + 1), ct := Pv (i + 1), bk := D.nx } σ2 H2) (hd : ∀ σ H, Pv n σ H → D.nx σ H) : VK' g tb D σ [.int i] H := by
  subst ei
  refine ⟨n, rfl, hn, fun i m σ H => m = n - i ∧ i ≤ n ∧ Pv i σ H, ⟨n, rfl, Nat.zero_le _, h0⟩, ?_⟩
  rintro i m σ H ⟨rfl, hi, p⟩
  by_cases hlt : i < n
  · refine .inr ⟨hlt, Pv (i + 1), fun σ' H' p' => ⟨n - (i + 1), by omega, rfl, hlt, p'⟩, fun x H' y => ?_⟩
    obtain ⟨e1, e2⟩ := y
    subst e1 e2
    exact hs i σ _ hlt p
  · have e : i = n := by omega
    subst e
    exact .inl ⟨Nat.le_refl _, hd σ H p⟩
end
end L2
namespace L2
open PySem PySem.Spec PyProof.Rows
/-! ### a def whose last parameter has a number as its default -/
structure FunD (K : PySem.W.Frag) (x qual : Str) (st : Stmt) (f : Addr) (fd : FuncData) (T : Addr) (i : Int) (t : Tok) : Prop where
  ex : ∃ (oc : Value) (od : Option Addr) (kV doc pm : Value) (an : Option Addr) (cdv ct : Value) (osl : Array (Option Value)),
    fd = PySem.W.fnOf x qual (defArgs st) (defBody st) (defScope st) (.ref T) kV doc pm an cdv ct ∧ K.lookup f = some ⟨oc, od, .func fd, osl⟩ ∧ PySem.W.codeIn K cdv qual = true
  kp : PySem.W.keepIn K (.ref f) = true
  df : ∃ o n, K.lookup T = some o ∧ o.data = .seq #[.int i t] n
section
variable {P : Program} {w : World} {K : PySem.W.Frag} {mg : Str → Option Value} {base : Heap}
theorem FunD.ok {x qual : Str} {st : Stmt} {f T : Addr} {i : Int} {t : Tok} {fd : FuncData} {N ps : List Str} {k : Nat} {sp : Sp} (F : FunD K x qual st f fd T i t) (S : FnScope N ps (defScope st)) (len : ∀ vs H Q E, sp vs H Q E → vs.length = ps.length)
    (hb : ∀ (cdv : Value) (A : Around) (outer : List Env) (s : Shared) (H : Hp) (vs : List V) (Q : VK) (E : XK), Room k (A.deeper (envOfC qual (defScope st) s.heap.objs.size f cdv)) → sp vs H Q E →
      ∃ t, PSs (cxOf CX0 P w K mg base N qual (defScope st) f cdv A outer s H E).nox (defBody st) t ∧ t { nx := fun _ H' => Q .non H', rt := Q } (start N vs) H) : FnOk P w K mg base CX0 (k + 1) f fd ps sp := by
  obtain ⟨oc, od, kV, doc, pm, an, cdv, ct, osl, rfl, lk, hcd⟩ := F.ex
  exact fn_of lk hcd S len fun A outer s H vs Q E hr hsp => let ⟨t, h, q⟩ := hb cdv A outer s H vs Q E hr hsp; ⟨t, h.nox, q⟩
theorem FunD.binds {x qual : Str} {st : Stmt} {f T : Addr} {i : Int} {t : Tok} {fd : FuncData} {ps : List Str} {ds : List Value} (F : FunD K x qual st f fd T i t)
    (h : ∀ (kV doc pm : Value) (an : Option Addr) (cdv ct : Value) (us : List Value), (us ++ ds).length = ps.length → ∃ k, bindArgs (PySem.W.fnOf x qual (defArgs st) (defBody st) (defScope st) (.ref T) kV doc pm an cdv ct) ⟨us, []⟩ = seqItems? (.ref T) >>= k ∧ k (some #[.int i t]) = pure (ps.zip (us ++ ds))) : Binds K fd ps ds := by
  obtain ⟨oc, od, kV, doc, pm, an, cdv, ct, osl, rfl, lk, hcd⟩ := F.ex
  obtain ⟨o, n, ho, hd⟩ := F.df
  intro s us KX hl
  obtain ⟨k, h1, h2⟩ := h kV doc pm an cdv ct us hl
  exact BindsTo.of_defaults rfl (KX _ _ ho) hd h1 h2
end
/-- a callee with a default -/
structure CtD (P : Program) (w : World) (K : PySem.W.Frag) (mg : Str → Option Value) (base : Heap) (k : Nat) (x : Str) (ps : List Str) (i : Int) (sp : Sp) where
  f : Addr
  fd : FuncData
  t : Tok
  G : FnOk P w K mg base CX0 k f fd ps sp
  kp : PySem.W.keepIn K (.ref f) = true
  b : Binds K fd ps []
  bd : Binds K fd ps [.int i t]
  m : mg x = some (.ref f)
def CtD.mono {P : Program} {w : World} {K : PySem.W.Frag} {mg : Str → Option Value} {base : Heap} {j k : Nat} {x : Str} {ps : List Str} {i : Int} {sp : Sp} (c : CtD P w K mg base j x ps i sp) (h : j ≤ k) : CtD P w K mg base k x ps i sp := { c with G := c.G.mono h }
section
variable {X : Cx} {x : Str} {p pos : Pos} {e : Expr} {es : List Expr} {t : TA}
end
end L2
namespace L2
open PySem PySem.Spec PyProof.Rows
section
variable {X : Cx}
end
/-- for x in a list, reckoned with a change of the heap -/
def LK (K : PySem.W.Frag) (g : TG) (tb : TS) (D : Ends) (σ : St) (x : V) (H1 : Hp) : Prop := ∃ a, x = .ref a ∧ (∃ xs, SqL K H1 a xs) ∧ ∃ W : Nat → Nat → St → Hp → Prop, (∃ m, W 0 m σ H1) ∧ ∀ i m σ H, W i m σ H →
  ((Itl K a).stop i H ∧ D.nx σ H) ∨ ((Itl K a).go i H ∧ ∃ N : St → Hp → Prop, (∀ σ' H', N σ' H' → ∃ m', m' < m ∧ W (i + 1) m' σ' H') ∧ ∀ x H', (Itl K a).yld i H x H' → g x σ H' fun σ2 H2 => tb { D with nx := N, ct := N, bk := D.nx } σ2 H2)
theorem tFor_lst {K : PySem.W.Frag} {tl : TE} {g : TG} {tb : TS} {D : Ends} {σ : St} {H : Hp} : tFor (iList K tl) g tb D σ H = tl σ H (LK K g tb D σ) := rfl
theorem LK.of {K : PySem.W.Frag} {g : TG} {tb : TS} {D : Ends} {σ : St} {H : Hp} {a : Addr} {xs : List V} (ha : H a = some (.lst xs)) (Pv : Nat → St → Hp → Prop) (h0 : Pv 0 σ H) (hl : ∀ i σ H', i ≤ xs.length → Pv i σ H' → H' a = some (.lst xs))
    (hs : ∀ i x σ H, xs[i]? = some x → Pv i σ H → g x σ H fun σ2 H2 => tb { D with nx := Pv (i + 1), ct := Pv (i + 1), bk := D.nx } σ2 H2) (hd : ∀ σ H, Pv xs.length σ H → D.nx σ H) : LK K g tb D σ (.ref a) H :=
  ⟨a, rfl, ⟨xs, SqL.of ha⟩, for_list (xs := xs) Pv h0 (fun i σ H' hi p => SqL.of (hl i σ H' hi p)) hs hd⟩
end L2
namespace L2
open PySem
mutual
def noL : PyData → Bool
  | .tuple ds => noLAll ds
  | .list _ => false
  | .dict _ => false
  | .none => true
  | .bool _ => true
  | .int _ => true
  | .str _ => true
def noLAll : List PyData → Bool
  | [] => true
  | d :: ds => noL d && noLAll ds
end
theorem noLAll_iff : ∀ {ds : List PyData}, noLAll ds = true ↔ ∀ d ∈ ds, noL d = true
  | [] => by simp [noLAll]
  | d :: ds => by
    have ih := noLAll_iff (ds := ds)
    simp only [noLAll, Bool.and_eq_true, ih, List.mem_cons, forall_eq_or_imp]
mutual
theorem At.hidL {G : Hp} {p : Addr} {xs : List V} (hp : G p = some (.lst xs)) : ∀ (d : PyData) (v : V), noL d = true → At G d v → At (hid p G) d v
  | .none, _, _, h => by unfold At at h ⊢; exact h
  | .bool _, _, _, h => by unfold At at h ⊢; exact h
  | .int _, _, _, h => by unfold At at h ⊢; exact h
  | .str _, _, _, h => by unfold At at h ⊢; exact h
  | .tuple ds, v, n, h => by
    unfold At at h ⊢
    obtain ⟨a, ys, e, h1, h2⟩ := h
    refine ⟨a, ys, e, ?_, AtAll.hidL hp ds ys (by simpa [noL] using n) h2⟩
    rw [hid_ne (fun z => by subst z; rw [hp] at h1; cases h1)]; exact h1
  | .list _, _, n, _ => by simp [noL] at n
  | .dict _, _, n, _ => by simp [noL] at n
theorem AtAll.hidL {G : Hp} {p : Addr} {xs : List V} (hp : G p = some (.lst xs)) : ∀ (ds : List PyData) (ys : List V), noLAll ds = true → AtAll G ds ys → AtAll (hid p G) ds ys
  | [], _, _, h => by unfold AtAll at h ⊢; exact h
  | d :: ds, ys, n, h => by
    unfold AtAll at h ⊢
    obtain ⟨x, r, e, h1, h2⟩ := h
    have n' : noL d = true ∧ noLAll ds = true := by simpa [noLAll] using n
    exact ⟨x, r, e, At.hidL hp d x n'.1 h1, AtAll.hidL hp ds r n'.2 h2⟩
end
theorem SX.same {p : Addr} {H H' : Hp} (hp : H p = none) (s : SX p H H') : Same H H' := fun b o h => by
  have hb : b ≠ p := fun z => by rw [z, hp] at h; cases h
  exact s.get hb h
theorem pick_strs {ts : List Str} {i : Int} (h0 : 0 ≤ i) (h1 : i < ts.length) : ∃ t, t ∈ ts ∧ atI (ts.map V.str) i = some (.str t) := by
  have hi : i.toNat < ts.length := by omega
  refine ⟨ts[i.toNat], List.getElem_mem hi, ?_⟩
  have := atI_nat (xs := ts.map V.str) (j := i.toNat) (v := .str ts[i.toNat]) (by rw [List.getElem?_map, List.getElem?_eq_getElem hi]; rfl)
  rwa [show ((i.toNat : Nat) : Int) = i by omega] at this
theorem pick_ints {ts : List Int} {i : Int} (h0 : 0 ≤ i) (h1 : i < ts.length) : ∃ t, t ∈ ts ∧ atI (ts.map V.int) i = some (.int t) := by
  have hi : i.toNat < ts.length := by omega
  refine ⟨ts[i.toNat], List.getElem_mem hi, ?_⟩
  have := atI_nat (xs := ts.map V.int) (j := i.toNat) (v := .int ts[i.toNat]) (by rw [List.getElem?_map, List.getElem?_eq_getElem hi]; rfl)
  rwa [show ((i.toNat : Nat) : Int) = i by omega] at this

def tSeqO (a b : TS) : TS := tSeq a b
theorem seqOr {c : TT} {b : TS} : tSeq (tIfS c (tRet (tC (V.bl false))) tNext) b = tSeqO (tIfS c (tRet (tC (V.bl false))) tNext) b := rfl
theorem seqOi {c : TT} {x y b : TS} : tSeq (tIfS c x y) b = tSeqO (tIfS c x y) b := rfl
theorem tSeqO.of {a b : TS} {D : Ends} {σ : St} {H : Hp} (R : St → Hp → Prop) (hR : ∀ σ' H', R σ' H' → b D σ' H') (h : ∀ N : St → Hp → Prop, (∀ σ' H', R σ' H' → N σ' H') → a { D with nx := N } σ H) : tSeqO a b D σ H := h _ hR
theorem tSeqO.on {a b : TS} {D : Ends} {σ : St} {H : Hp} (hR : ∀ H', Same H H' → b D σ H') (h : ∀ N : St → Hp → Prop, (∀ H', Same H H' → N σ H') → a { D with nx := N } σ H) : tSeqO a b D σ H :=
  tSeqO.of (fun σ' H' => σ' = σ ∧ Same H H') (fun σ' H' z => by rw [z.1]; exact hR H' z.2) fun N hN => h N fun H' s => hN _ _ ⟨rfl, s⟩
theorem Same.updN {H H' : Hp} {p : Addr} {o : HO} (s : Same H H') (hp : H p = none) : Same H (upd H' p o) := fun b u h => by rw [upd_ne (ne_of_none h hp)]; exact s _ _ h
def isLst : PyData → Bool
  | .list _ => true
  | _ => false
theorem kit_lst (K : PySem.W.Frag) (d : PyData) : PySem.W.kitOne K (.type (tyD d)) (.type "list") = some (isLst d) := by cases d <;> kernel_rfl
theorem isi_lst {X : Cx} : CallR X (.builtin "isinstance") (rIsi "list" isLst) := isi_of kit_lst
theorem noLAll_get {ds : List PyData} (h : noLAll ds = true) {i : Nat} {d : PyData} (e : ds[i]? = some d) : noL d = true := noLAll_iff.mp h d (List.mem_of_getElem? e)
/-- a comprehension over a list, each of its things told a thing without lists -/
theorem comp_LV {K : PySem.W.Frag} {js : List Nat} {a : Addr} {xs : List V} {es : List PyData} {tl te : TE} {σ : St} {H : Hp} {Q : VK} (hl : ∀ R : VK, R (.ref a) H → tl σ H R) (ha : H a = some (.lst xs)) (hn : es.length = xs.length) (hz : es.length ≤ sizeLine) (hL : noLAll es = true)
    (step : ∀ (i : Nat) x e H', xs[i]? = some x → es[i]? = some e → Same H H' → ∀ R : VK, (∀ v H'', Same H' H'' → At H'' e v → R v H'') → te (some x :: capS js σ) H' R)
    (fin : ∀ acc ys H', Same H H' → H acc = none → H' acc = some (.lst ys) → AtAll (hid acc H') es ys → Q (.ref acc) H') : tComp js (iList K tl) te σ H Q := by
  refine hl _ ⟨a, rfl, ⟨xs, SqL.of ha⟩, fun acc hacc => ?_⟩
  refine ⟨fun i m ys H2 => m = es.length - i ∧ i ≤ es.length ∧ AtAll (hid acc H2) (es.take i) ys ∧ Same H H2 ∧ H2 acc = some (.lst ys), ⟨_, rfl, Nat.zero_le _, AtAll.nil, same_new hacc _, upd_same⟩, ?_⟩
  rintro i m ys H2 ⟨rfl, hi, hA, sm, hy⟩
  have ht : SqL K H2 a xs := SqL.of (sm _ _ ha)
  by_cases hlt : i < es.length
  · refine .inr ⟨⟨xs, xs[i]'(by omega), ht, List.getElem?_eq_getElem (by omega)⟩, fun x H3 y => ?_⟩
    obtain ⟨e, y⟩ := y
    subst e
    have e1 : es[i]? = some es[i] := List.getElem?_eq_getElem hlt
    refine step i x _ _ (y xs ht) e1 sm _ fun v H4 s4 a4 => ⟨s4 _ _ hy, ?_, es.length - (i + 1), by omega, rfl, hlt, ?_, ?_, upd_same⟩
    · rw [hA.length, List.length_take]; omega
    · rw [hid_upd, List.take_succ, e1]
      exact AtAll.append (hA.mono (Same.hid s4)) (AtAll.cons (At.hidL (s4 _ _ hy) _ _ (noLAll_get hL e1) a4) AtAll.nil)
    · refine fun b o q => ?_
      have nb : b ≠ acc := ne_of_none q hacc
      rw [upd_ne nb]
      exact s4 _ _ (sm _ _ q)
  · have e : i = es.length := by omega
    subst e
    rw [List.take_length] at hA
    exact .inl ⟨⟨xs, ht, by omega⟩, fin _ _ _ sm hacc hy hA⟩
end L2
namespace L2
open PySem PySem.Spec PyProof.Rows
/-! ### min of a list of numbers, at least one -/
section
variable {X : Cx}
end
end L2
namespace L2
open PySem PySem.Spec PyProof.Rows
/-! ### a comprehension of one clause: any target, at most one test -/
structure CScG (X : Cx) (nt : Nat) (N' : List Str) (js : List Nat) (sc : Scope) : Prop where
  kind : sc.kind = .function
  nocell : ∀ y ∈ sc.names, y.2 ≠ .cell
  names : ∀ y ∈ sc.names, y.2 = .local → sc.names.lookup y.1 = some .local
  clos : closureFor sc X.env = pure (clOf sc X.env)
  all : (sc.names.all fun y => y.2 != .free || (X.env.cells.lookup y.1).isSome) = true
  len : N'.length = nt + js.length
  cap : ∀ (i j : Nat), js[i]? = some j → N'[nt + i]? = X.N[j]?
  capk : ∀ y ∈ N'.drop nt, X.env.kindOf y = some .cell ∧ sc.names.lookup y = some .free
theorem inv_compG {X : Cx} {pins : List (Addr × Obj)} {σ : St} {H : Hp} {s : Shared} {fp : List Addr} {N' : List Str} {js : List Nat} {sc : Scope} {nt : Nat} {h1 : Heap} {tk : Nat} (I : Inv X pins σ H s) (hf : ∀ b ∈ fp, FpOk X pins H b) (hlt : ∀ b ∈ fp, b < s.heap.objs.size)
    (S : CScG X nt N' js sc) (hn : h1.Ns s.heap.objs.size fun _ => none) (hk : ∀ b o, s.heap.get? b = some o → h1.get? b = some o) : Inv (cxC X N' sc fp s H) [] (List.replicate nt none ++ capS js σ) H { s with heap := h1, toks := tk } := by
  refine ⟨⟨I.ok.mod, S.kind, I.ok.glob, I.ok.blt, Nat.le_refl _, fun x y c e1 e2 => I.ok.inj x y c (clOf_sound e1) (clOf_sound e2), fun x hx => ?_, fun x c e => absurd e (by show ¬ (false = true); simp), I.ok.hd, I.ok.frames, .inl rfl, fun b hb => ⟨Nat.ne_of_lt (hlt b hb), fun x c e => (hf b hb).2.2.2.2.1 x c (clOf_sound e)⟩, I.bs,
    Nat.le_trans I.ok.bsz I.sz, fun b o e hb => ?_, fun b hb z => ?_, I.stack, I.stkFree⟩, rfl, I.bare, Un.kept hk, ⟨fun _ => none, hn, fun i x v e1 e2 e3 => ?_⟩, fun x c e => ?_, I.hok.fresh (Nat.le_refl _), fun x c e => I.freeC x c (clOf_sound e), fun p hp => absurd (show p ∈ ([] : List (Addr × Obj)) from hp) (by simp), I.hok.kept hk, ?_⟩
  · have hx' : (relabel sc X.env).names.lookup x = some .cell ∨ (relabel sc X.env).names.lookup x = some .free := hx
    have key : (x, NameKind.free) ∈ sc.names := by
      rcases hx' with q | q
      · obtain ⟨k, hm, e | ⟨e, _⟩⟩ := relabel_mem q
        · exact absurd e.symm (S.nocell _ hm)
        · rw [← e]; exact hm
      · obtain ⟨k, hm, e | ⟨e, _⟩⟩ := relabel_mem q
        · rw [e]; exact hm
        · rw [← e]; exact hm
    have a := List.all_eq_true.mp S.all _ key
    have a' : (X.env.cells.lookup x).isSome = true := by simpa using a
    obtain ⟨c, hc⟩ := Option.isSome_iff_exists.mp a'
    exact ⟨c, cl_has hc sc.names [] key⟩
  · rcases (hf b hb).2.2.2.1 with z | z
    · exact I.ok.noex b o e z
    · exact absurd (Nat.lt_of_lt_of_le (Heap.lt_size e) (Nat.le_trans I.ok.bsz z)) (Nat.lt_irrefl _)
  · rcases List.mem_cons.mp (I.stkSub b z) with q | q
    · exact (hf b hb).2.1 q
    · exact (hf b hb).2.2.1 q
  · by_cases hlt : i < nt
    · rw [List.getElem?_append_left (by rw [List.length_replicate]; exact hlt), List.getElem?_replicate, if_pos hlt] at e2
      cases e2
    · obtain ⟨i', rfl⟩ : ∃ i', i = nt + i' := ⟨i - nt, by omega⟩
      rw [List.getElem?_append_right (by rw [List.length_replicate]; omega), List.length_replicate, Nat.add_sub_cancel_left] at e2
      have e2' : (capS js σ)[i']? = some (some v) := e2
      unfold capS at e2'
      rw [List.getElem?_map] at e2'
      cases hj : js[i']? with
      | none => rw [hj] at e2'; simp at e2'
      | some j =>
        rw [hj] at e2'
        have e4 : (σ[j]?).join = some v := by simpa using e2'
        have e5 : σ[j]? = some (some v) := by
          cases q : σ[j]? with
          | none => rw [q] at e4; simp at e4
          | some z => rw [q] at e4; simp at e4; rw [e4]
        have e6 : X.N[j]? = some x := by rw [← S.cap i' j hj]; exact e1
        have mem : x ∈ N'.drop nt := by
          have e1' : N'[nt + i']? = some x := e1
          exact List.mem_of_getElem? (i := i') (by rw [List.getElem?_drop]; exact e1')
        obtain ⟨k1, k2⟩ := S.capk x mem
        obtain ⟨m, _, hl⟩ := I.loc
        obtain ⟨u, r, l⟩ := hl j x v e6 e5 (.inr (.inl k1))
        refine ⟨u, r, .inr ⟨.inl (relabel_free I.ok.kind k1 sc.names k2), ?_⟩⟩
        rcases l with ⟨z, _⟩ | ⟨_, c, hc, hcell⟩
        · rw [k1] at z; cases z
        · obtain ⟨o, ho, hd⟩ := hcell
          exact ⟨c, cl_has hc sc.names [] (PySem.mem_of_lookup k2), o, hk c o ho, hd⟩
  · obtain ⟨v, o, ho, hd⟩ := I.cell x c (clOf_sound e)
    exact ⟨v, o, hk c o ho, hd⟩
  · show (List.replicate nt none ++ capS js σ).length = N'.length
    rw [S.len]; simp [capS]


/-- the tests of a clause -/
structure IfsR (X : Cx) (ifs : List Expr) (t : TT) : Prop where
  mk ::
  go : ∀ (pins : List (Addr × Obj)) (s : Shared) (σ : St) (H : Hp) (Q : Bool → Hp → Prop), Inv X pins σ H s → t σ H Q → wpAny (model X.prog X.w) X.A (forIn ifs true fun c r => if r = true then do let ok ← isTrue c X.env (eval c X.env); pure (ForInStep.yield ok) else pure (ForInStep.yield r)) (TP X pins σ Q) X.xe s
instance {X : Cx} {ifs : List Expr} {t : TT} : CoeFun (IfsR X ifs t) (fun _ =>
  ∀ (pins : List (Addr × Obj)) (s : Shared) (σ : St) (H : Hp) (Q : Bool → Hp → Prop), Inv X pins σ H s → t σ H Q → wpAny (model X.prog X.w) X.A (forIn ifs true fun c r => if r = true then do let ok ← isTrue c X.env (eval c X.env); pure (ForInStep.yield ok) else pure (ForInStep.yield r)) (TP X pins σ Q) X.xe s) := ⟨IfsR.go⟩
def tAll : TT := fun _ H Q => Q true H
theorem ifs_nil {X : Cx} : IfsR X [] tAll := .mk fun pins s σ H Q I h => wpAny_tests_nil ⟨H, I, h⟩
/-- the reading: W the invariant, by the turn, a measure, what is made so far -/
def tCompG (nt : Nat) (js : List Nat) (wi : TI) (g : TG) (tc : TT) (te : TE) : TE := fun σ H Q => wi σ H fun J H1 => ∀ acc, H1 acc = none → ∃ W : Nat → Nat → List V → Hp → Prop, (∃ m, W 0 m [] (upd H1 acc (.lst []))) ∧ ∀ i m ys H2, W i m ys H2 →
  (J.stop i H2 ∧ Q (.ref acc) H2) ∨ (J.go i H2 ∧ ∀ x H3, J.yld i H2 x H3 → g x (List.replicate nt none ++ capS js σ) H3 fun σ' H' => (σ'.drop nt = capS js σ ∧ σ'.length = (List.replicate nt (none : Option V) ++ capS js σ).length) ∧ tc σ' H' fun b H'' =>
    if b = true then te σ' H'' fun y H4 => H4 acc = some (.lst ys) ∧ ys.length < sizeLine ∧ ∃ m', m' < m ∧ W (i + 1) m' (ys ++ [y]) (upd H4 acc (.lst (ys ++ [y]))) else ∃ m', m' < m ∧ W (i + 1) m' ys H'')
theorem compLoop_goG {prog : Program} {w : World} {A : Around} {R : Result → Shared → Prop} {s : Shared} {elt target iter : Expr} {ifs : List Expr} {sc : Scope} {pos : Pos} {it acc : Value} {env : Env} (Iv : Nat → Shared → Prop)
    (turn : ∀ n s, Iv n s → wpAny (model prog w) A (pyNext it) (fun r s1 => match r with
      | none => R (.ok .next) s1
      | some v => wpAny (model prog w) A (letOwnedTupleGo target it v) (fun _ s2 => wpAny (model prog w) A (assign target env v) (fun _ s3 =>
          wpAny (model prog w) A (forIn ifs true fun c r => if r = true then do let ok ← isTrue c env (eval c env); pure (ForInStep.yield ok) else pure (ForInStep.yield r)) (fun ok s3' =>
          if ok = true then wpAny (model prog w) A (eval elt env) (fun x s4 =>
          wpAny (model prog w) A (call (.builtin "list.append") [acc, x]) (fun _ s5 => ∃ m, m < n ∧ Iv m s5) (fun _ _ => False) s4) (fun _ _ => False) s3' else ∃ m, m < n ∧ Iv m s3') (fun _ _ => False) s3) (fun _ _ => False) s2) (fun _ _ => False) s1) (fun _ _ => False) s)
    (n : Nat) (h : Iv n s) : codeAny (model prog w) A (.compLoop (.ListComp elt [⟨target, iter, ifs, 0⟩] sc pos) 0 it acc env) R s := by
  refine codeAny_loop rfl Iv (fun n s hI => ?_) n h
  show wpAny _ _ ((compTurn (.ListComp elt [⟨target, iter, ifs, 0⟩] sc pos) 0 it acc env).onRaise (fun x => do noteFrame x env; theTreesLotGoes x)) _ _ s
  refine wpAny_noted ?_
  rw [compTurn_list]
  refine wpAny_bind (wpAny_standAt (wpAny_bind (wpAny_mono (turn n s hI) (fun r s1 q1 => ?_) fun _ _ f => f.elim)))
  cases r with
  | none => exact wpAny_pure q1
  | some v =>
    refine wpAny_bind (wpAny_mono q1 (fun _ s2 q2 => ?_) fun _ _ f => f.elim)
    refine wpAny_bind (wpAny_mono q2 (fun _ s3 q3 => wpAny_bind (wpAny_mono q3 (fun ok s3' q3' => ?_) fun _ _ f => f.elim)) fun _ _ f => f.elim)
    cases ok with
    | false => exact wpAny_pure ⟨rfl, q3'⟩
    | true => exact wpAny_bind (wpAny_bind (wpAny_mono q3' (fun x s4 q4 => wpAny_bind (wpAny_mono q4 (fun _ s5 q5 => wpAny_pure (wpAny_pure ⟨rfl, q5⟩)) fun _ _ f => f.elim)) fun _ _ f => f.elim))
theorem comp_coreG {X : Cx} {elt iter : Expr} {tg : Expr} {ifs : List Expr} {g : TG} {tc : TT} {nt : Nat} {pos : Pos} {sc : Scope} {wi : TI} {te : TE} {N' : List Str} {js : List Nat} {use : Option (Value → Sem Unit)} {Qc : Value → Shared → Prop} {pins : List (Addr × Obj)} {s : Shared} {σ : St} {H : Hp} {Q : VK} {kp : Pos} (hc : X.calm = true) (hi : PI X tg iter wi) (S : CScG X nt N' js sc)
    (hgt : ∀ fp s H, PG (cxC X N' sc fp s H) tg g) (hif : ∀ fp s H, IfsR (cxC X N' sc fp s H) ifs tc) (he : ∀ fp s H, PE (cxC X N' sc fp s H) elt te) (hs : ∀ x, foldedSetIterable iter X.env x = pure x) (I : Inv X pins σ H s) (h : tCompG nt js wi g tc te σ H Q)
    (fin : ∀ (acc C : Addr) (H' : Hp) (s' : Shared), Inv X pins σ H' s' → FpOk X pins H' C → (∃ m, s'.heap.Ns C m) → Q (.ref acc) H' → compPost (model X.prog X.w) X.A X.xe use Qc (.ref acc) C (.ok .next) s') :
    wpAny (model X.prog X.w) X.A (comprehension (.ListComp elt [⟨tg, iter, ifs, 0⟩] sc pos) sc X.env kp (newList []) false (eval iter X.env) use) Qc X.xe s := by
  refine wpAny_comprehension_free (use := use) rfl hs S.clos S.kind S.names ?_
  refine thn (hi pins s σ H _ I h) fun v s1 q1 => thn q1 fun itv s2 q2 => ?_
  obtain ⟨it, fp, tn, J, H2, e, I2, T, st2, f2, q3⟩ := q2
  subst e
  refine wpAny_newObj_type ?_
  obtain ⟨W, ⟨m0, w0⟩, turn⟩ := q3 s2.heap.objs.size I2.fresh
  have I3 := I2.lnew (ys := []) (its := []) (t' := s2.toks) .nil (Nat.zero_le _)
  have lt2 : ∀ b ∈ fp, b < s2.heap.objs.size := fun b hb => by
    obtain ⟨o, ho, _⟩ := T.obj 0 _ st2 b hb
    exact Heap.lt_size ho
  generalize e3 : ({ s2 with heap := s2.heap.push { cls := .type "list", data := .seq ([] : List Value).toArray }, toks := s2.toks } : Shared) = s3 at I3
  have e3' : ({ s2 with heap := s2.heap.push { cls := .type "list", dict := none, data := .seq ([] : List Value).toArray } } : Shared) = s3 := e3
  have sz3 : s3.heap.objs.size = s2.heap.objs.size + 1 := by rw [← e3]; exact Heap.size_push ..
  have st3 : tn 0 s3.heap := T.keep 0 _ _ st2 fun b hb o ho => by rw [← e3]; exact Heap.get?_push_of_some _ ho
  have lt3 : ∀ b ∈ fp, b < s3.heap.objs.size := fun b hb => by rw [sz3]; exact Nat.lt_succ_of_lt (lt2 b hb)
  have f3 : ∀ b ∈ fp, FpOk X pins (upd H2 s2.heap.objs.size (.lst [])) b := fun b hb => ⟨by rw [upd_ne (Nat.ne_of_lt (lt2 b hb))]; exact (f2 b hb).1, (f2 b hb).2⟩
  generalize hH3 : upd H2 s2.heap.objs.size (.lst []) = H3 at I3 f3 w0
  refine wpAny_newFunctionEnv S.nocell (by intro y hy; simp at hy) (fun h1 hns hsb => ?_) S.kind
  have hk : ∀ b o, s3.heap.get? b = some o → h1.get? b = some o := fun b o q => hsb.extBut b o (Nat.ne_of_lt (Heap.lt_size q)) (Heap.get?_push_of_some _ q)
  have hns' : h1.Ns s3.heap.objs.size fun _ => none := hns
  have I4 : Inv (cxC X N' sc fp s3 H3) [] (List.replicate nt none ++ capS js σ) H3 { s3 with heap := h1, toks := s3.toks + ([] : List (Str × Value)).length } := inv_compG I3 f3 lt3 S hns' hk
  have st4 : tn 0 h1 := T.keep 0 _ _ st3 fun b hb o ho => hk b o ho
  have stat : ∀ {H' : Hp}, (∀ b ∈ fp, H' b = none) → ∀ b ∈ fp, FpOk (cxC X N' sc fp s3 H3) [] H' b := fun hn b hb => ⟨hn b hb, Nat.ne_of_lt (lt3 b hb), I4.ok.exfs b hb, .inl hb, (I4.ok.exf b hb).2, fun p hp => absurd (show p ∈ ([] : List (Addr × Obj)) from hp) (by simp)⟩
  -- the way out
  have out : ∀ {σ' : St} {H' : Hp} {s' : Shared}, Inv (cxC X N' sc fp s3 H3) [] σ' H' s' → Q (.ref s2.heap.objs.size) H' → compPost (model X.prog X.w) X.A X.xe use Qc (.ref s2.heap.objs.size) s3.heap.objs.size (.ok .next) s' := by
    intro σ' H' s' I' q'
    obtain ⟨m, hn, _⟩ := id I'.loc
    have I5 : Inv X pins σ H' s' := I3.call' I'.os I'.base I'.hok I'.bare fun b hb => ⟨(f3 b hb).2.2.2.1, (f3 b hb).2.1, (f3 b hb).2.2.2.2.1, (f3 b hb).2.2.2.2.2⟩
    exact fin _ _ H' s' I5 (I3.fpOk (Nat.le_refl _) I'.free) ⟨m, hn⟩ q'
  have loop : ∀ s4 : Shared, s4 = { s3 with heap := h1, toks := s3.toks + ([] : List (Str × Value)).length } → codeAny (model X.prog X.w) X.A (.compLoop (.ListComp elt [⟨tg, iter, ifs, 0⟩] sc pos) 0 (.ref it) (.ref s2.heap.objs.size) (compEnvC sc (clOf sc X.env) s3.heap.objs.size X.env))
      (compPost (model X.prog X.w) X.A X.xe use Qc (.ref s2.heap.objs.size) s3.heap.objs.size) s4 := by
    rintro s4 rfl
    refine compLoop_goG (fun n s' => ∃ i ys H', Inv (cxC X N' sc fp s3 H3) [] (List.replicate nt none ++ capS js σ) H' s' ∧ tn i s'.heap ∧ (∀ b ∈ fp, H' b = none) ∧ W i n ys H') ?_ m0 ⟨0, [], H3, I4, st4, fun b hb => (f3 b hb).1, w0⟩
    rintro n s5 ⟨i, ys, H5, I5, st5, fr5, w5⟩
    rcases turn i n ys H5 w5 with ⟨stop, qn⟩ | ⟨go, step⟩
    · refine thn (T.done (cxC X N' sc fp s3 H3) rfl rfl rfl hc i [] s5 _ H5 (fun _ _ => False) I5 (stat fr5) st5 stop) fun r s6 ⟨hr, I6⟩ => ?_
      subst hr
      exact out I6 qn
    · refine thn (T.item (cxC X N' sc fp s3 H3) rfl rfl rfl hc i [] s5 _ H5 (fun _ _ => False) I5 (stat fr5) st5 go) fun r s6 ⟨u, hr, q6⟩ => ?_
      subst hr
      refine thn q6 fun _ s7 ⟨y, H7, I7, r7, y7, st7, fr7⟩ => ?_
      have I7' := I7.pinned (stat fr7) (T.obj _ _ st7)
      refine thn (hgt fp s3 H3 _ s7 _ H7 y u _ I7' r7 (step y _ y7)) fun _ s8 ⟨σ8, H8, I8, hsh, q8⟩ => ?_
      refine thn (hif fp s3 H3 _ s8 _ _ _ I8 q8) fun b s8' ⟨H8', I8', q8'⟩ => ?_
      have wk : ∀ k v, (List.replicate nt none ++ capS js σ)[k]? = some (some v) → σ8[k]? = some (some v) := fun k v e => by
        by_cases hlt : k < nt
        · rw [List.getElem?_append_left (by rw [List.length_replicate]; exact hlt), List.getElem?_replicate, if_pos hlt] at e
          cases e
        · rw [List.getElem?_append_right (by rw [List.length_replicate]; omega), List.length_replicate, ← hsh.1, List.getElem?_drop] at e
          rw [show nt + (k - nt) = k by omega] at e
          exact e
      cases b with
      | true =>
        rw [if_pos rfl] at q8' ⊢
        refine thn (he fp s3 H3 _ s8' _ _ _ I8' q8') fun z s9 ⟨vz, H9, I9, r9, ha, hz, m', hm, w9⟩ => ?_
        refine thn (mt_append (X := cxC X N' sc fp s3 H3) _ s9 _ H9 (.ref s2.heap.objs.size) [vz] (.ref s2.heap.objs.size) [z] (fun _ H' => H' = upd H9 s2.heap.objs.size (.lst (ys ++ [vz]))) I9 rfl (.cons r9 .nil) ⟨_, ys, vz, rfl, rfl, ha, hz, rfl⟩) fun _ s10 ⟨_, H10, I10, _, e10⟩ => ?_
        subst e10
        refine ⟨m', hm, i + 1, ys ++ [vz], _, (I10.unpinned).weak hsh.2.symm wk, T.keep _ _ _ st7 fun b hb o e => (I10.pin (b, o) (List.mem_append_right _ (List.mem_append_right _ (mem_pinsAt hb e)))).1, fun b hb => ?_, w9⟩
        obtain ⟨o, e, d⟩ := T.obj _ _ st7 b hb
        exact (I10.pin (b, o) (List.mem_append_right _ (List.mem_append_right _ (mem_pinsAt hb e)))).2.1
      | false =>
        rw [if_neg (by decide)] at q8' ⊢
        obtain ⟨m', hm, w9⟩ := q8'
        refine ⟨m', hm, i + 1, ys, _, (I8'.unpinned).weak hsh.2.symm wk, T.keep _ _ _ st7 fun b hb o e => (I8'.pin (b, o) (List.mem_append_right _ (List.mem_append_right _ (mem_pinsAt hb e)))).1, fun b hb => ?_, w9⟩
        obtain ⟨o, e, d⟩ := T.obj _ _ st7 b hb
        exact (I8'.pin (b, o) (List.mem_append_right _ (List.mem_append_right _ (mem_pinsAt hb e)))).2.1
  exact codeAny_compStart_list (loop _ rfl) (T.self X.A 0 _ _ _ st4 (loop _ rfl))

theorem pe_compG {X : Cx} {elt iter tg : Expr} {ifs : List Expr} {g : TG} {tc : TT} {nt : Nat} {pos : Pos} {sc : Scope} {wi : TI} {te : TE} {N' : List Str} {js : List Nat} (hc : X.calm = true) (hi : PI X tg iter wi) (S : CScG X nt N' js sc)
    (hgt : ∀ fp s H, PG (cxC X N' sc fp s H) tg g) (hif : ∀ fp s H, IfsR (cxC X N' sc fp s H) ifs tc) (he : ∀ fp s H, PE (cxC X N' sc fp s H) elt te) (hs : ∀ x, foldedSetIterable iter X.env x = pure x := by intro _; rfl) : PE X (.ListComp elt [⟨tg, iter, ifs, 0⟩] sc pos) (tCompG nt js wi g tc te) := by
  refine .mk ?_
  intro pins s σ H Q I h
  rw [eval_ListComp]
  refine comp_coreG (use := none) hc hi S hgt hif he hs I h fun acc C H' s' I5 fc ⟨m, hn⟩ q => ?_
  refine ⟨m, hn, fun h' sb => ?_⟩
  exact ⟨.ref acc, H', I5.turned (it := C) (t' := s'.toks) (fun b o hb q => sb.extBut b o hb q) fc.1 fc.2.1 fc.2.2.2.1 fc.2.2.2.2.1 fc.2.2.2.2.2, rfl, q⟩
theorem CScG.of {X : Cx} {nt : Nat} {N' : List Str} {js : List Nat} {sc : Scope} (k : sc.kind = .function := by rfl) (n : (sc.names.all fun y => y.2 != .cell) = true := by decide +kernel)
    (l : (sc.names.all fun y => y.2 != .local || sc.names.lookup y.1 == some .local) = true := by decide +kernel) (al : (sc.names.all fun y => y.2 != .free || (X.env.cells.lookup y.1).isSome) = true := by rfl)
    (ln : N'.length = nt + js.length := by rfl) (cp : (N'.drop nt).map some = js.map (fun j => X.N[j]?) := by rfl) (ck : ((N'.drop nt).all fun y => X.env.kindOf y == some .cell && sc.names.lookup y == some .free) = true := by rfl) : CScG X nt N' js sc := by
  have n' : ∀ y ∈ sc.names, y.2 ≠ .cell := fun y hy => by have := List.all_eq_true.mp n y hy; simpa using this
  refine ⟨k, n', names_ok l, closure_is al, al, ln, fun i j h => ?_, fun y h => ?_⟩
  · have := congrArg (fun l => l[i]?) cp
    simp only [List.getElem?_map, List.getElem?_drop, h, Option.map_some] at this
    cases e : N'[nt + i]? with
    | none => rw [e] at this; cases this
    | some y => rw [e] at this; exact Option.some.inj this
  · have := List.all_eq_true.mp ck y h
    simpa using this
/-- a comprehension over a list that is reckoned with a change of the heap -/
def LCK (K : PySem.W.Frag) (js : List Nat) (te : TE) (σ : St) (Q : VK) (x : V) (H1 : Hp) : Prop := tComp js (iList K fun _ H R => R x H) te σ H1 Q
theorem tComp_lst {K : PySem.W.Frag} {js : List Nat} {tl te : TE} {σ : St} {H : Hp} {Q : VK} : tComp js (iList K tl) te σ H Q = tl σ H (LCK K js te σ Q) := rfl
theorem LCK.of {K : PySem.W.Frag} {js : List Nat} {a : Addr} {xs : List V} {es : List PyData} {te : TE} {σ : St} {H : Hp} {Q : VK} (ha : H a = some (.lst xs)) (hn : es.length = xs.length) (hz : es.length ≤ sizeLine) (hL : noLAll es = true)
    (step : ∀ (i : Nat) x e H', xs[i]? = some x → es[i]? = some e → Same H H' → ∀ R : VK, (∀ v H'', Same H' H'' → At H'' e v → R v H'') → te (some x :: capS js σ) H' R)
    (fin : ∀ acc ys H', Same H H' → H acc = none → H' acc = some (.lst ys) → AtAll (hid acc H') es ys → Q (.ref acc) H') : LCK K js te σ Q (.ref a) H := comp_LV (fun R h => h) ha hn hz hL step fin
end L2
namespace L2
open PySem PySem.Spec PyProof.Rows
section
variable {prog : Program} {w : World} {A : Around} {E : Value → Shared → Prop} {s : Shared}
end
/-! ### enumerate of a tuple -/
section
variable {X : Cx}
end
end L2
namespace L2
open PySem PySem.Spec PyProof.Rows
/-! ### zip of two things, whatever they are drawn from -/
structure Zap (z TI TO i1 i2 : Addr) (f1 f2 : List Addr) : Prop where
  a1 : TI ≠ z
  a2 : TO ≠ z
  a3 : TI ≠ TO
  a4 : i1 ≠ z
  a5 : i2 ≠ z
  a6 : TO ≠ i1
  a7 : TO ≠ i2
  a8 : i1 ≠ i2
  b1 : z ∉ f1
  b2 : z ∉ f2
  b3 : TO ∉ f1
  b4 : TO ∉ f2
  b5 : i1 ∉ f2
  b6 : i2 ∉ f1
section
variable {prog : Program} {w : World} {A : Around} {E : Value → Shared → Prop} {s : Shared}
theorem stB {b : Addr} {h h' : Heap} {f : List Addr} (sb : Heap.SameBut b h h') (hb : b ∉ f) : ∀ c ∈ f, ∀ o, h.get? c = some o → h'.get? c = some o := fun c hc o e => sb.extBut c o (fun z => hb (z ▸ hc)) e
theorem zip_draw {z TI TO i1 i2 : Addr} {f1 f2 : List Addr} {n1 n2 k : Nat} {P1 P2 : Nat → Value → Prop} {S1 S2 : Nat → Heap → Prop} {a b : Value} {Q : Value → Shared → Prop} (Z : Zap z TI TO i1 i2 f1 f2) (D1 : Draws prog w A i1 f1 n1 P1 S1) (D2 : Draws prog w A i2 f2 n2 P2 S2)
    (hz : IsZip s.heap z TI TO .none) (hi : IsPair s.heap TI (.ref i1) (.ref i2)) (ho : IsPair s.heap TO a b) (s1 : S1 k s.heap) (s2 : S2 k s.heap) (k1 : k < n1) (k2 : k < n2)
    (q : ∀ x y h' tk, P1 k x → P2 k y → IsZip h' z TI TO (rawInt s.heap.objs.size) → IsPair h' TO x y → S1 (k + 1) h' → S2 (k + 1) h' → IsPair h' s.heap.objs.size x y → h'.objs.size = s.heap.objs.size + 1 → (∀ c o, c ≠ z → c ≠ TO → c ≠ i1 → c ≠ i2 → s.heap.get? c = some o → h'.get? c = some o) → Q (.ref s.heap.objs.size) { s with heap := h', toks := tk }) :
    wpAny (model prog w) A (Builtin.«zip.__next__» ⟨[.ref z], []⟩) (fun fin s' => ∃ v, fin = .done (.ret v) ∧ Q v s') E s := by
  show wpAny _ _ (field (.ref z) 2 >>= _) _ _ _; refine wpAny_bind (wpAny_field hz rfl (x := .bool false) rfl ?_)
  show wpAny _ _ (field (.ref z) 3 >>= _) _ _ _; refine wpAny_bind (wpAny_field hz rfl (x := .ref TI) rfl (wpAny_bind (wpAny_seqItems hi rfl ?_)))
  show wpAny _ _ (Builtin.SmallTypes.ownedTupleIsFree (.ref z) >>= _) _ _ _; unfold Builtin.SmallTypes.ownedTupleIsFree
  refine wpAny_bind (wpAny_bind (wpAny_field hz rfl (x := .none) rfl (wpAny_pure ?_))); simp only [if_true]
  refine wpAny_bind (wpAny_rule (wpAny_bind (wpAny_field hz rfl (x := .ref TO) rfl (wpAny_bind (wpAny_setField_rec hz (by simp) fun hA zA sA => ?_)))))
  replace zA : IsZip hA z TI TO .ellipsis := zA
  refine wpAny_bind ?_; simp only [List.zipIdx_cons, List.zipIdx_nil, List.forIn_cons, List.forIn_nil]
  refine wpAny_bind (wpAny_bind (wpAny_onRaise ?_)); show wpAny _ _ (Builtin.SmallTypes.nextOf (.ref i1) >>= _) _ _ _
  refine wpAny_bind (D1.item k _ _ _ k1 (D1.frame _ _ _ s1 (stB sA Z.b1)) fun x hB tB pB stb sB => wpAny_pure ?_)
  have oB : IsPair hB TO a b := sB.extBut _ _ Z.a6 (sA.extBut _ _ Z.a2 ho)
  have uB : S2 k hB := D2.frame _ _ _ (D2.frame _ _ _ s2 (stB sA Z.b2)) (stB sB Z.b5)
  refine wpAny_bind (wpAny_seqItems oB rfl (wpAny_bind (wpAny_updateSeq_pair oB fun hC oC sC => ?_)))
  replace oC : IsPair hC TO x b := oC
  refine wpAny_bind (wpAny_letGo (wpAny_pure (wpAny_bind (wpAny_bind (wpAny_onRaise ?_))))); show wpAny _ _ (Builtin.SmallTypes.nextOf (.ref i2) >>= _) _ _ _
  refine wpAny_bind (D2.item k _ _ _ k2 (D2.frame _ _ _ uB (stB sC Z.b4)) fun y hD tD pD std sD => wpAny_pure ?_)
  have oD : IsPair hD TO x b := sD.extBut _ _ Z.a7 oC
  refine wpAny_bind (wpAny_seqItems oD rfl (wpAny_bind (wpAny_updateSeq_pair oD fun hF oF sF => ?_)))
  replace oF : IsPair hF TO x y := oF
  refine wpAny_bind (wpAny_letGo (wpAny_pure (wpAny_pure (wpAny_bind (wpAny_seqItems oF rfl (wpAny_bind (wpAny_newTuple ?_)))))))
  have zF : IsZip hF z TI TO .ellipsis := sF.extBut _ _ Z.a2.symm (sD.extBut _ _ Z.a5.symm (sC.extBut _ _ Z.a2.symm (sB.extBut _ _ Z.a4.symm zA)))
  have size : hF.objs.size = s.heap.objs.size := by rw [sF.1, sD.1, sC.1, sB.1, sA.1]
  have lz : z < hF.objs.size := Heap.lt_size zF
  show wpAny _ _ (Builtin.SmallTypes.ownedTupleHandOut (.ref z) (.ref hF.objs.size) >>= _) _ _ _; unfold Builtin.SmallTypes.ownedTupleHandOut
  have zG : IsZip (hF.push { cls := .type "tuple", data := .seq #[x, y] }) z TI TO .ellipsis := Heap.get?_push_of_some _ zF
  refine wpAny_bind (wpAny_bind (wpAny_setField_rec zG (by simp) fun hI zI sI => ?_))
  replace zI : IsZip hI z TI TO (rawInt hF.objs.size) := zI
  refine wpAny_setField_rec zI (by simp) fun hJ zJ sJ => wpAny_pure ⟨_, rfl, ?_⟩
  replace zJ : IsZip hJ z TI TO (rawInt hF.objs.size) := zJ
  have up : ∀ c o, c ≠ z → hF.get? c = some o → hJ.get? c = some o := fun c o n e => sJ.extBut _ _ n (sI.extBut _ _ n (Heap.get?_push_of_some _ e))
  have tJ : IsPair hJ hF.objs.size x y := sJ.extBut _ _ (Nat.ne_of_gt lz) (sI.extBut _ _ (Nat.ne_of_gt lz) (Heap.get?_push_size _ rfl))
  have szJ : hJ.objs.size = hF.objs.size + 1 := by rw [sJ.1, sI.1, Heap.size_push]
  have kB : ∀ c o, c ≠ z → c ≠ TO → c ≠ i1 → c ≠ i2 → s.heap.get? c = some o → hF.get? c = some o := fun c o n1 n2 n3 n4 e => sF.extBut _ _ n2 (sD.extBut _ _ n4 (sC.extBut _ _ n2 (sB.extBut _ _ n3 (sA.extBut _ _ n1 e))))
  have u1 : S1 (k + 1) hF := D1.frame _ _ _ (D1.frame _ _ _ (D1.frame _ _ _ stb (stB sC Z.b3)) (stB sD Z.b6)) (stB sF Z.b3)
  have u2 : S2 (k + 1) hF := D2.frame _ _ _ std (stB sF Z.b4)
  show Q (.ref hF.objs.size) _
  rw [size] at zJ tJ szJ ⊢
  exact q x y hJ tD pB pD zJ (up _ _ Z.a2 oF) (D1.frame _ _ _ u1 fun c hc o e => up c o (fun z' => Z.b1 (z' ▸ hc)) e) (D2.frame _ _ _ u2 fun c hc o e => up c o (fun z' => Z.b2 (z' ▸ hc)) e) tJ szJ fun c o n1 n2 n3 n4 e => up c o n1 (kB c o n1 n2 n3 n4 e)
/-- one of the two has come to its end -/
theorem zip_drawE {z TI TO i1 i2 : Addr} {f1 f2 : List Addr} {n1 n2 k : Nat} {P1 P2 : Nat → Value → Prop} {S1 S2 : Nat → Heap → Prop} {a b : Value} {Q : Fin → Shared → Prop} (Z : Zap z TI TO i1 i2 f1 f2) (D1 : Draws prog w A i1 f1 n1 P1 S1) (D2 : Draws prog w A i2 f2 n2 P2 S2)
    (hz : IsZip s.heap z TI TO .none) (hi : IsPair s.heap TI (.ref i1) (.ref i2)) (ho : IsPair s.heap TO a b) (s1 : S1 k s.heap) (s2 : S2 k s.heap) (kk : k = n1 ∨ (k < n1 ∧ k = n2))
    (q : ∀ h' e, (∀ c o, c ≠ z → c ≠ TO → c ≠ i1 → c ≠ i2 → s.heap.get? c = some o → h'.get? c = some o) → (∃ o, h'.get? e = some o ∧ o.cls = .type "StopIteration") → ∀ tk, E (.ref e) { s with heap := h', toks := tk }) :
    wpAny (model prog w) A (Builtin.«zip.__next__» ⟨[.ref z], []⟩) Q E s := by
  show wpAny _ _ (field (.ref z) 2 >>= _) _ _ _; refine wpAny_bind (wpAny_field hz rfl (x := .bool false) rfl ?_)
  show wpAny _ _ (field (.ref z) 3 >>= _) _ _ _; refine wpAny_bind (wpAny_field hz rfl (x := .ref TI) rfl (wpAny_bind (wpAny_seqItems hi rfl ?_)))
  show wpAny _ _ (Builtin.SmallTypes.ownedTupleIsFree (.ref z) >>= _) _ _ _; unfold Builtin.SmallTypes.ownedTupleIsFree
  refine wpAny_bind (wpAny_bind (wpAny_field hz rfl (x := .none) rfl (wpAny_pure ?_))); simp only [if_true]
  refine wpAny_bind (wpAny_rule (wpAny_bind (wpAny_field hz rfl (x := .ref TO) rfl (wpAny_bind (wpAny_setField_rec hz (by simp) fun hA zA sA => ?_)))))
  replace zA : IsZip hA z TI TO .ellipsis := zA
  refine wpAny_bind ?_; simp only [List.zipIdx_cons, List.zipIdx_nil, List.forIn_cons, List.forIn_nil]
  refine wpAny_bind (wpAny_bind (wpAny_onRaise ?_)); show wpAny _ _ (Builtin.SmallTypes.nextOf (.ref i1) >>= _) _ _ _
  rcases kk with e1 | ⟨k1, e2⟩
  · have s1' := s1
    rw [e1] at s1'
    refine wpAny_bind (D1.done _ _ _ (D1.frame _ _ _ s1' (stB sA Z.b1)) fun hB x sB hx => ?_)
    obtain ⟨ox, gx, cx⟩ := hx
    have zB : IsZip hB z TI TO .ellipsis := sB _ _ Z.a4.symm zA
    have nx : x ≠ z := fun y => by subst y; rw [zB] at gx; cases gx; exact absurd (show Value.type "zip" = Value.type "StopIteration" from cx) (by decide)
    refine wpAny_setField_rec zB (by simp) fun hC _ sC => q hC x (fun c o m1 _ m3 _ e => sC.extBut _ _ m1 (sB _ _ m3 (sA.extBut _ _ m1 e))) ⟨ox, sC.extBut _ _ nx gx, cx⟩ _
  · refine wpAny_bind (D1.item k _ _ _ k1 (D1.frame _ _ _ s1 (stB sA Z.b1)) fun x hB tB pB stb sB => wpAny_pure ?_)
    have oB : IsPair hB TO a b := sB.extBut _ _ Z.a6 (sA.extBut _ _ Z.a2 ho)
    have uB : S2 k hB := D2.frame _ _ _ (D2.frame _ _ _ s2 (stB sA Z.b2)) (stB sB Z.b5)
    refine wpAny_bind (wpAny_seqItems oB rfl (wpAny_bind (wpAny_updateSeq_pair oB fun hC oC sC => ?_)))
    refine wpAny_bind (wpAny_letGo (wpAny_pure (wpAny_bind (wpAny_bind (wpAny_onRaise ?_))))); show wpAny _ _ (Builtin.SmallTypes.nextOf (.ref i2) >>= _) _ _ _
    have uC : S2 n2 hC := by rw [← e2]; exact D2.frame _ _ _ uB (stB sC Z.b4)
    refine wpAny_bind (D2.done _ _ _ uC fun hD v sD hx => ?_)
    obtain ⟨ox, gx, cx⟩ := hx
    have zD : IsZip hD z TI TO .ellipsis := sD _ _ Z.a5.symm (sC.extBut _ _ Z.a2.symm (sB.extBut _ _ Z.a4.symm zA))
    have nx : v ≠ z := fun y => by subst y; rw [zD] at gx; cases gx; exact absurd (show Value.type "zip" = Value.type "StopIteration" from cx) (by decide)
    refine wpAny_setField_rec zD (by simp) fun hF _ sF => q hF v (fun c o m1 m2 m3 m4 e => sF.extBut _ _ m1 (sD _ _ m4 (sC.extBut _ _ m2 (sB.extBut _ _ m3 (sA.extBut _ _ m1 e))))) ⟨ox, sF.extBut _ _ nx gx, cx⟩ _
theorem zip_go {z TI TO i1 i2 : Addr} {f1 f2 : List Addr} {n1 n2 k : Nat} {P1 P2 : Nat → Value → Prop} {S1 S2 : Nat → Heap → Prop} {a b : Value} {Q : Option Value → Shared → Prop} (Z : Zap z TI TO i1 i2 f1 f2) (D1 : Draws prog w A.in1 i1 f1 n1 P1 S1) (D2 : Draws prog w A.in1 i2 f2 n2 P2 S2)
    (hz : IsZip s.heap z TI TO .none) (hi : IsPair s.heap TI (.ref i1) (.ref i2)) (ho : IsPair s.heap TO a b) (s1 : S1 k s.heap) (s2 : S2 k s.heap) (k1 : k < n1) (k2 : k < n2)
    (q : ∀ x y h' tk, P1 k x → P2 k y → IsZip h' z TI TO (rawInt s.heap.objs.size) → IsPair h' TO x y → S1 (k + 1) h' → S2 (k + 1) h' → IsPair h' s.heap.objs.size x y → h'.objs.size = s.heap.objs.size + 1 → (∀ c o, c ≠ z → c ≠ TO → c ≠ i1 → c ≠ i2 → s.heap.get? c = some o → h'.get? c = some o) → Q (some (.ref s.heap.objs.size)) { s with heap := h', toks := tk }) :
    wpAny (model prog w) A (pyNext (.ref z)) Q E s := by
  have ty : s.TypeIs (.ref z) "zip" := ⟨_, hz, rfl⟩
  unfold pyNext
  refine wpAny_bind (wpAny_attempt (wpAny_callSpecial?_slot (name := Str.ofString "__next__") ty F.slot_zip_next (wpAny_call_entry F.slot_zip_next ty F.entry_zip_next ?_ (F.args_zip_next_1 _))))
  exact zip_draw Z D1 D2 hz hi ho s1 s2 k1 k2 fun x y h' tk p1 p2 v1 v2 v3 v4 v5 v6 v7 => wpAny_pure (q x y h' tk p1 p2 v1 v2 v3 v4 v5 v6 v7)
theorem zip_out {z TI TO i1 i2 : Addr} {f1 f2 : List Addr} {n1 n2 k : Nat} {P1 P2 : Nat → Value → Prop} {S1 S2 : Nat → Heap → Prop} {a b : Value} {Q : Option Value → Shared → Prop} (Z : Zap z TI TO i1 i2 f1 f2) (D1 : Draws prog w A.in1 i1 f1 n1 P1 S1) (D2 : Draws prog w A.in1 i2 f2 n2 P2 S2)
    (hz : IsZip s.heap z TI TO .none) (hi : IsPair s.heap TI (.ref i1) (.ref i2)) (ho : IsPair s.heap TO a b) (s1 : S1 k s.heap) (s2 : S2 k s.heap) (kk : k = n1 ∨ (k < n1 ∧ k = n2))
    (q : ∀ h' tk, (∀ c o, c ≠ z → c ≠ TO → c ≠ i1 → c ≠ i2 → s.heap.get? c = some o → h'.get? c = some o) → Q none { s with heap := h', toks := tk }) : wpAny (model prog w) A (pyNext (.ref z)) Q E s := by
  have ty : s.TypeIs (.ref z) "zip" := ⟨_, hz, rfl⟩
  unfold pyNext
  refine wpAny_bind (wpAny_attempt (wpAny_callSpecial?_slot (name := Str.ofString "__next__") ty F.slot_zip_next (wpAny_call_entry F.slot_zip_next ty F.entry_zip_next ?_ (F.args_zip_next_1 _))))
  refine zip_drawE Z D1 D2 hz hi ho s1 s2 kk fun h' e k hx tk => ?_
  obtain ⟨o, g, c⟩ := hx
  exact wpAny_bind (wpAny_isInstance (T := "StopIteration") (b := true) ⟨o, g, c⟩ isSubtype_stop (wpAny_pure (q _ tk k)))
end
/-! ### zip of two tuples, made -/
end L2
namespace L2
open PySem PySem.Spec PyProof.Rows
theorem Inv.turnedL {X : Cx} {pins : List (Addr × Obj)} {σ : St} {H : Hp} {s : Shared} {h' : Heap} {t' : Nat} {fp : List Addr} (I : Inv X pins σ H s) (k : ∀ b o, b ∉ fp → s.heap.get? b = some o → h'.get? b = some o) (hf : ∀ b ∈ fp, FpOk X pins H b) :
    Inv X pins σ H { s with heap := h', toks := t' } := by
  have ni : ∀ b u, H b = some u → b ∉ fp := fun b u q hb => by rw [(hf b hb).1] at q; cases q
  refine I.step (g' := s.gens) (d' := s.drawn) (ch := fp) (fun b hb => ?_) (fun b o _ _ hc q _ => k b o hc q) (fun b o _ _ hc q _ => ⟨o.slots, k b o hc q⟩) (fun _ _ _ _ n => n) (fun b o hc q => ⟨o, k b o hc q⟩) (fun _ _ q => q) (fun _ _ _ q => q)
    (fun b ps q => ⟨#[], by rw [q]; simp⟩) (fun m hm => ?_) (fun b u q => ?_) I.bare
  · obtain ⟨_, f1, _, f3, f4, f5⟩ := hf b hb
    exact ⟨f3, (hf b hb).2.1, f4, f5⟩
  · obtain ⟨o, es, ep, ho, r⟩ := hm
    exact ⟨o, es, ep, k _ o (fun hb => (hf _ hb).2.1 rfl) ho, r⟩
  · refine (I.hok b u q).stay (fun c v hc z => k c v ?_ z) (fun _ z => z) fun _ _ z => z
    rcases hc with z | z
    · rw [z]; exact ni b u q
    · exact ni c _ z
structure Zst (z TI TO i1 i2 a b : Addr) (i : Nat) (h : Heap) : Prop where
  z : IsZip h z TI TO .none
  p : IsPair h TI (.ref i1) (.ref i2)
  o : ∃ x y, IsPair h TO x y
  l : h.IsTupleIter i1 a i
  r : h.IsTupleIter i2 b i
section
variable {X : Cx}
end
end L2
namespace L2
open PySem PySem.Spec PyProof.Rows
/-! ### a comprehension of two clauses, each over a name, without a test -/
abbrev two (elt t1 i1 t2 i2 : Expr) (sc : Scope) (pos : Pos) : Expr := .ListComp elt [⟨t1, i1, [], 0⟩, ⟨t2, i2, [], 0⟩] sc pos
section
variable {prog : Program} {w : World} {A : Around} {R : Result → Shared → Prop} {s : Shared} {elt t1 i1 t2 i2 : Expr} {sc : Scope} {pos : Pos} {it acc : Value} {env : Env}
end
end L2
namespace L2
open PySem PySem.Spec PyProof.Rows
/-! ### readings: pairs out of zip and enumerate, a tuple at the top of a module, rows of rows -/
theorem pg_tupK {X : Cx} {K : PySem.W.Frag} {pos : Pos} {es : List Expr} {k : Nat} {t : TGs} {n : Nat} (hK : X.K = K) (hc : X.calm = true) (h : PGs X es t)
    (hn : (assignEach es X.env).length = n := by rfl) (hst : (assignEach es X.env).findIdx? (·.1) = none := by rfl) : PG X (.Tuple es k pos) (gTup K n t) := by
  subst hK
  exact pg_tup hc h hn hst
theorem compP_core {K : PySem.W.Frag} {js : List Nat} {J : It} {te : TE} {σ : St} {H : Hp} {Q : VK} {acc : Addr} {es : List PyData} (xv yv : Nat → V) (hz : es.length ≤ sizeLine) (hL : noLAll es = true) (hacc : H acc = none)
    (go : ∀ i H', i < es.length → Same H H' → J.go i H') (yl : ∀ i H' v H'', i < es.length → Same H H' → J.yld i H' v H'' → ∃ p, H' p = none ∧ v = .ref p ∧ H'' = upd H' p (.tup [xv i, yv i])) (st : ∀ H', Same H H' → J.stop es.length H')
    (val : ∀ (i : Nat) e H', es[i]? = some e → Same H H' → ∀ R : VK, (∀ v H'', Same H' H'' → At H'' e v → R v H'') → te (some (xv i) :: some (yv i) :: capS js σ) H' R)
    (fin : ∀ ys H', Same H H' → H' acc = some (.lst ys) → AtAll (hid acc H') es ys → Q (.ref acc) H') :
    ∃ W : Nat → Nat → List V → Hp → Prop, (∃ m, W 0 m [] (upd H acc (.lst []))) ∧ ∀ i m ys H2, W i m ys H2 →
      (J.stop i H2 ∧ Q (.ref acc) H2) ∨ (J.go i H2 ∧ ∀ x H3, J.yld i H2 x H3 → gTup K 2 (gCons (gName 0) (gCons (gName 1) gNil)) x (List.replicate 2 none ++ capS js σ) H3 fun σ' H' => (σ'.drop 2 = capS js σ ∧ σ'.length = (List.replicate 2 (none : Option V) ++ capS js σ).length) ∧ tAll σ' H' fun b H'' =>
        if b = true then te σ' H'' fun y H4 => H4 acc = some (.lst ys) ∧ ys.length < sizeLine ∧ ∃ m', m' < m ∧ W (i + 1) m' (ys ++ [y]) (upd H4 acc (.lst (ys ++ [y]))) else ∃ m', m' < m ∧ W (i + 1) m' ys H'') := by
  refine ⟨fun i m ys H2 => m = es.length - i ∧ i ≤ es.length ∧ AtAll (hid acc H2) (es.take i) ys ∧ Same H H2 ∧ H2 acc = some (.lst ys), ⟨_, rfl, Nat.zero_le _, AtAll.nil, same_new hacc _, upd_same⟩, ?_⟩
  rintro i m ys H2 ⟨rfl, hi, hA, sm, hy⟩
  by_cases hlt : i < es.length
  · refine .inr ⟨go i H2 hlt sm, fun x H3 y => ?_⟩
    obtain ⟨p, fp, rfl, rfl⟩ := yl i H2 x H3 hlt sm y
    refine ⟨p, _, rfl, SqT.of upd_same, rfl, _, _, rfl, _, _, rfl, rfl, ⟨rfl, by simp⟩, ?_⟩
    unfold tAll
    simp only [if_true]
    have e1 : es[i]? = some es[i] := List.getElem?_eq_getElem hlt
    have s3 : Same H2 (upd H2 p (.tup [xv i, yv i])) := same_new fp _
    refine val i _ _ e1 (sm.trans s3) _ fun v H4 s4 a4 => ⟨s4 _ _ (s3 _ _ hy), ?_, es.length - (i + 1), by omega, rfl, hlt, ?_, ?_, upd_same⟩
    · rw [hA.length, List.length_take]; omega
    · rw [hid_upd, List.take_succ, e1]
      exact AtAll.append (hA.mono (Same.hid (s3.trans s4))) (AtAll.cons (At.hidL (s4 _ _ (s3 _ _ hy)) _ _ (noLAll_get hL e1) a4) AtAll.nil)
    · refine fun b o q => ?_
      have nb : b ≠ acc := ne_of_none q hacc
      rw [upd_ne nb]
      exact s4 _ _ (s3 _ _ (sm _ _ q))
  · have e : i = es.length := by omega
    subst e
    rw [List.take_length] at hA
    exact .inl ⟨st _ sm, fin _ _ sm hy hA⟩
end L2
namespace L2
open PySem PySem.Spec PyProof.Rows
/-! ### isinstance(x, (list, tuple)) -/
section
variable {X : Cx} {pins : List (Addr × Obj)} {σ : St} {H : Hp} {s : Shared} {A : Around} {E : Value → Shared → Prop} {Q : Value → Shared → Prop} {b : Bool}
theorem isinst_two {x : V} {u t : Value} {tp : Addr} {its : List Value} (I : Inv X pins σ H s) (rx : RelV x u) (ty : TyOf X.K H x t) (htp : IsTup s.heap tp its.toArray) (e : PySem.W.kitAny X.K t its = some b) (h : ∀ tk, Q (.bool b) { s with toks := tk }) :
    wpAny (model X.prog X.w) A (call (.builtin "isinstance") [u, .ref tp]) Q E s := by
  obtain ⟨o, ho, hc, n, hd⟩ := htp
  obtain ⟨cls, dd, data, sl⟩ := o
  cases hc
  cases hd
  cases ty with
  | non => cases (show u = Value.none from rx); exact PySem.W.kia_tup PySem.W.kitx_none I.kIn True.intro ho e (fun z => nomatch z) h
  | bl y => cases (show u = Value.bool y from rx); exact PySem.W.kia_tup PySem.W.kitx_bool I.kIn True.intro ho e (fun z => nomatch z) h
  | int i => obtain ⟨t, q⟩ := (show ∃ t, u = Value.int i t from rx); cases q; exact PySem.W.kia_tup PySem.W.kitx_int I.kIn True.intro ho e (fun z => nomatch z) h
  | str y => obtain ⟨t, q⟩ := (show ∃ t, u = Value.str y t from rx); cases q; exact PySem.W.kia_tup PySem.W.kitx_str I.kIn True.intro ho e (fun z => nomatch z) h
  | flt y => obtain ⟨t, q⟩ := (show ∃ t, u = Value.float y t from rx); cases q; exact PySem.W.kia_tup PySem.W.kitx_float I.kIn True.intro ho e (fun z => nomatch z) h
  | @lst a xs ea =>
    cases (show u = Value.ref a from rx)
    obtain ⟨_, _, n, _, h1⟩ := (show ObjOk X.prog X.w H s.heap a (.lst xs) from I.hok a _ ea)
    exact PySem.W.kia_tup PySem.W.kitx_list I.kIn ⟨_, h1, rfl⟩ ho e (fun z => nomatch z) h
  | @frz a ob xs ea =>
    cases (show u = Value.ref a from rx)
    obtain ⟨_, _, _, n, _, h1⟩ := (show ObjOk X.prog X.w H s.heap a (.frz ob (.lst xs)) from I.hok a _ ea)
    exact PySem.W.kia_tup PySem.W.kitx_list I.kIn ⟨_, h1, rfl⟩ ho e (fun z => nomatch z) h
  | @tup a xs ea =>
    cases (show u = Value.ref a from rx)
    obtain ⟨_, _, _, p⟩ := (show ObjOk X.prog X.w H s.heap a (.tup xs) from I.hok a _ ea)
    obtain ⟨o, h1, h2, _⟩ := p
    exact PySem.W.kia_tup PySem.W.kitx_tuple I.kIn ⟨o, h1, h2⟩ ho e (fun z => nomatch z) h
  | @dK a kvs ea =>
    cases (show u = Value.ref a from rx)
    obtain ⟨_, _, vs, _, p⟩ := (show ObjOk X.prog X.w H s.heap a (.dK kvs) from I.hok a _ ea)
    obtain ⟨o, es, ep, h1, h2, _⟩ := p
    exact PySem.W.kia_tup PySem.W.kitx_dict I.kIn ⟨o, h1, h2.1⟩ ho e (fun z => nomatch z) h
  | @dT a kvs ea =>
    cases (show u = Value.ref a from rx)
    obtain ⟨_, _, xs, _, o, es, ep, h1, h2, _⟩ := (show ObjOk X.prog X.w H s.heap a (.dT kvs) from I.hok a _ ea)
    exact PySem.W.kia_tup PySem.W.kitx_dict I.kIn ⟨o, h1, h2.1⟩ ho e (fun z => nomatch z) h
  | @ins a C dx fs ea cl ha hn htk hm =>
    cases (show u = Value.ref a from rx)
    obtain ⟨mA, O, _⟩ := ins_get I.hok ea
    obtain ⟨od, J, _⟩ := O.look
    exact PySem.W.kia_tup (PySem.W.kitx_own (cl.get _) cl.hd ha hn htk hm) I.kIn J ho e (fun z => nomatch z) h
end
section
variable {X : Cx}
theorem kit_lt (K : PySem.W.Frag) (d : PyData) : PySem.W.kitAny K (.type (tyD d)) [.type "list", .type "tuple"] = some (isLst d || isTup d) := by
  show (match PySem.W.kitOne K (.type (tyD d)) (.type "list") with | some true => some true | some false => (match PySem.W.kitOne K (.type (tyD d)) (.type "tuple") with | some true => some true | some false => some false | none => none) | none => none) = _
  rw [kit_lst, kit_tup]
  cases isLst d <;> cases isTup d <;> rfl
theorem isi_lt : CallR X (.builtin "isinstance") (fun vs H Q => ∃ (v : V) (d : PyData) (p : Addr), vs = [v, .ref p] ∧ At H d v ∧ H p = some (.tup [.ty "list", .ty "tuple"]) ∧ Q (.bl (isLst d || isTup d)) H) := by
  refine .mk ?_
  intro pins s σ H vs us Q I r h
  obtain ⟨v, d, p, rfl, hv, hp, q⟩ := h
  obtain ⟨u, t, rfl, ru, rt⟩ := r.two
  cases (show t = Value.ref p from rt)
  obtain ⟨_, its, ri, ht⟩ := (show ObjOk X.prog X.w H s.heap p (.tup [.ty "list", .ty "tuple"]) from I.hok p _ hp)
  have e : its = [Value.type "list", Value.type "tuple"] := by
    obtain ⟨a, b, rfl, ra, rb⟩ := ri.two
    cases (show a = Value.type "list" from ra)
    cases (show b = Value.type "tuple" from rb)
    rfl
  subst e
  exact isinst_two I ru (hv.ty (K := X.K)) ht (kit_lt X.K d) fun tk => ⟨.bl (isLst d || isTup d), H, I.tok tk, rfl, q⟩
end
/-! ### a comprehension with any target, without a test -/
end L2
namespace L2
open PySem PySem.Spec PyProof.Rows
section
variable {X : Cx}
end
end L2
namespace L2
open PySem PySem.Spec PyProof.Rows
/-! ### f-strings -/
def fmtV : V → Option Str
  | .int i => if i.natAbs.log2 < 1920 then some (Str.ofString (toString i)) else none
  | .str z => some z
  | _ => none
def tFv (te : TE) : TE := fun σ H Q => te σ H fun x H1 => ∃ z, fmtV x = some z ∧ z.length ≤ sizeLine ∧ Q (.str z) H1
abbrev TJ := Str → St → Hp → (Str → Hp → Prop) → Prop
section
variable {X : Cx}
theorem pe_fv {e : Expr} {te : TE} {pos : Pos} (he : PE X e te) : PE X (.FormattedValue e (-1) none pos) (tFv te) := by
  refine .mk ?_
  intro pins s σ H Q I h
  refine FormattedValue_plain (thn (he pins s σ H _ I h) fun v s1 ⟨x, H1, I1, r1, z, hz, hl, q⟩ => ?_)
  cases x with
  | int i =>
    obtain ⟨t, rfl⟩ := r1
    by_cases hd : i.natAbs.log2 < 1920
    · have e : z = Str.ofString (toString i) := (Option.some.inj ((if_pos hd).symm.trans hz)).symm
      subst e
      exact formatField_int_small hd ⟨.str _, H1, I1.tok _, ⟨_, rfl⟩, q⟩
    · have e : (none : Option Str) = some z := (if_neg hd).symm.trans hz
      cases e
  | str y =>
    obtain ⟨t, rfl⟩ := r1
    cases hz
    exact formatField_str (fun t' tk => ⟨.str _, H1, I1.tok _, ⟨_, rfl⟩, q⟩) hl
  | _ => cases hz
/-- the parts of an f-string, put behind what there is -/
structure PJ (X : Cx) (es : List Expr) (t : TJ) : Prop where
  mk ::
  go : ∀ (acc : Str) (pins : List (Addr × Obj)) (s : Shared) (σ : St) (H : Hp) (R : Str → Hp → Prop), Inv X pins σ H s → t acc σ H R →
    Joins (model X.prog X.w) X.A X.xe (evalEach es X.env) acc (fun out s' => ∃ H', Inv X pins σ H' s' ∧ R out H') s
def tJ0 : TJ := fun acc _ H R => R acc H
def tJ1 (te : TE) (t : TJ) : TJ := fun acc σ H R => te σ H fun x H1 => ∃ y, x = .str y ∧ (acc ++ y).length ≤ sizeLine ∧ t (acc ++ y) σ H1 R
def tJs (t : TJ) : TE := fun σ H Q => t Str.empty σ H fun out H' => out.length ≤ sizeLine ∧ Q (.str out) H'
theorem Joins.mono {M : Model} {A : Around} {E : Value → Shared → Prop} : ∀ {ps : List (Sem Value)} {acc : Str} {Q Q' : Str → Shared → Prop} {s : Shared}, (∀ o s', Q o s' → Q' o s') → Joins M A E ps acc Q s → Joins M A E ps acc Q' s
  | [], _, _, _, _, h, j => h _ _ j
  | _ :: _, _, _, _, _, h, j => wpAny_mono j (fun _ _ ⟨y, t, e, l, r⟩ => ⟨y, t, e, l, Joins.mono h r⟩) fun _ _ e => e
theorem pj_nil : PJ X [] tJ0 := .mk fun acc pins s σ H R I h => ⟨H, I, h⟩
theorem pj_cons {e : Expr} {es : List Expr} {te : TE} {t : TJ} (he : PE X e te) (hr : PJ X es t) : PJ X (e :: es) (tJ1 te t) := by
  refine .mk fun acc pins s σ H R I h => ?_
  show wpAny _ _ (eval e X.env) _ _ s
  refine thn (he pins s σ H _ I h) fun v s1 ⟨x, H1, I1, r1, y, ex, hl, q⟩ => ?_
  subst ex
  obtain ⟨t', rfl⟩ := r1
  exact ⟨y, t', rfl, hl, hr.go _ pins s1 σ H1 R I1 q⟩
theorem pe_js {a b : Expr} {r : List Expr} {t : TJ} {pos : Pos} (h : PJ X (a :: b :: r) t) : PE X (.JoinedStr (a :: b :: r) pos) (tJs t) := by
  refine .mk fun pins s σ H Q I hw => ?_
  refine wpAny_JoinedStr (Joins.mono ?_ (h.go Str.empty pins s σ H _ I hw))
  rintro o s' ⟨H', I', hl, q⟩
  exact ⟨hl, .str o, H', I'.tok _, ⟨_, rfl⟩, q⟩
/-! ### slices -/
/-! ### sep.join(list of texts) -/
theorem strsAre_of : ∀ {zs : List Str} {us : List Value}, Vals (zs.map V.str) us → StrsAre us zs
  | [], _, .nil => .nil
  | z :: zs, _, .cons ⟨t, e⟩ r => by subst e; exact .cons z t (strsAre_of r)
theorem txtJoin (sep : Str) (zs : List Str) : Txt.join sep zs = Str.join sep zs := by
  match zs with
  | [] => exact (StrLaws.glued_eq_join sep [])
  | [x] => rfl
  | x :: y :: r => exact StrLaws.glued_eq_join sep (x :: y :: r)
def rJoin : V → List V → Hp → VK → Prop := fun x xs H Q => ∃ (sep : Str) (p : Addr) (zs : List Str), x = .str sep ∧ xs = [.ref p] ∧ H p = some (.lst (zs.map V.str)) ∧ (zs.map (·.length)).sum + zs.length * sep.length ≤ 16777216 ∧ Q (.str (Str.join sep zs)) H
theorem mt_join : MtR X "str.join" rJoin := by
  intro pins s σ H x xs v us Q I rx rs h
  obtain ⟨sep, p, zs, rfl, rfl, hp, hz, q⟩ := h
  obtain ⟨t, rfl⟩ := rx
  obtain ⟨u, rfl, ru⟩ := rs.one
  cases ru
  obtain ⟨_, its, n, rv, e1⟩ := (show ObjOk X.prog X.w H s.heap p (.lst (zs.map V.str)) from I.hok p _ hp)
  refine join_list (D := p) (items := its.toArray) ⟨_, e1, rfl, n, rfl⟩ (by simpa using strsAre_of rv) hz fun t' k => ⟨.str _, H, I.tok _, ⟨t', rfl⟩, ?_⟩
  rw [txtJoin]
  exact q
/-! ### int(text) -/
/-! ### a text walked sign by sign -/
/-- a test that is a value's truth -/
def tTru (K : PySem.W.Frag) (ta : TE) : TT := fun σ H Q => ta σ H fun x H' => ∃ k, TruV K x H' k ∧ Q k H'
end
end L2
namespace L2
open PySem PySem.Spec PyProof.Rows
/-! ### texts as lists of signs -/
def tx (l : List Nat) : Str := ⟨l.toArray⟩
theorem tx_cps (l : List Nat) : (tx l).cps.toList = l := by simp [tx]
theorem tx_len (l : List Nat) : (tx l).length = l.length := by show l.toArray.size = _; simp
theorem tx_of {z : Str} {l : List Nat} (h : z.cps.toList = l) : z = tx l := by subst h; cases z; simp [tx]
theorem tx_app (a b : List Nat) : tx a ++ tx b = tx (a ++ b) := tx_of (by rw [PySem.W.KT.app_list, tx_cps, tx_cps])
theorem tx_nil : Str.empty = tx [] := rfl
theorem tx_one (c : Nat) : (⟨#[c]⟩ : Str) = tx [c] := rfl
/-! ### numbers -/
def dg (n : Int) : List Nat := (Nat.toDigits 10 n.toNat).map Char.toNat
theorem str_dg {n : Int} (h : 0 ≤ n) : Str.ofString (toString n) = tx (dg n) := by
  obtain ⟨m, rfl⟩ := Int.eq_ofNat_of_zero_le h
  exact tx_of (PySem.W.KIN.signs_num m)
theorem dg_len {n : Int} {k : Nat} (hk : 0 < k) (h1 : n < 10 ^ k) : (dg n).length ≤ k := by
  unfold dg
  rw [List.length_map]
  refine (Nat.length_toDigits_le_iff (by decide) hk).mpr ?_
  by_cases h0 : 0 ≤ n
  · have : (n.toNat : Int) < ((10 ^ k : Nat) : Int) := by rw [Int.toNat_of_nonneg h0]; simpa using h1
    exact_mod_cast this
  · rw [show n.toNat = 0 by omega]
    exact Nat.pow_pos (by decide)
theorem log_small {m : Nat} (h : m ≤ 1000000000000) : m.log2 < 1920 := by
  by_cases e : m = 0
  · subst e; decide
  · rw [Nat.log2_lt e]
    exact Nat.lt_of_le_of_lt h (Nat.lt_of_lt_of_le (show 1000000000000 < 2 ^ 40 by decide) (Nat.pow_le_pow_right (by decide) (by decide)))
/-! ### slices -/
/-! ### joined -/
def jn (sep : List Nat) : List (List Nat) → List Nat
  | [] => []
  | [x] => x
  | x :: y :: r => x ++ sep ++ jn sep (y :: r)
theorem join_tx (sep : List Nat) : ∀ ls : List (List Nat), Str.join (tx sep) (ls.map tx) = tx (jn sep ls)
  | [] => rfl
  | [x] => rfl
  | x :: y :: r => by
    show tx x ++ tx sep ++ Str.join (tx sep) ((y :: r).map tx) = _
    rw [join_tx sep (y :: r), tx_app, tx_app]
    rfl
theorem jn_cons (sep x : List Nat) {r : List (List Nat)} (h : r ≠ []) : jn sep (x :: r) = x ++ sep ++ jn sep r := by
  cases r with
  | nil => exact absurd rfl h
  | cons y r => rfl
theorem jn_app (sep : List Nat) : ∀ (a b : List (List Nat)), a ≠ [] → b ≠ [] → jn sep (a ++ b) = jn sep a ++ sep ++ jn sep b
  | [], _, h, _ => absurd rfl h
  | [x], b, _, hb => jn_cons sep x hb
  | x :: y :: r, b, _, hb => by
    have := jn_app sep (y :: r) b (by simp) hb
    show x ++ sep ++ jn sep ((y :: r) ++ b) = x ++ sep ++ jn sep (y :: r) ++ sep ++ jn sep b
    rw [this]
    simp only [List.append_assoc]
/-! ### a comprehension over a text, each sign told a truth -/
theorem fmt_dg {n : Int} (h0 : 0 ≤ n) (h1 : n ≤ 1000000000000) : fmtV (.int n) = some (tx (dg n)) := by
  show (if n.natAbs.log2 < 1920 then some (Str.ofString (toString n)) else none) = _
  rw [if_pos (log_small (by omega)), str_dg h0]
end L2
namespace L2
open PySem PySem.Spec PyProof.Rows
/-! ### zip of two lists, made -/
abbrev liH (h : Heap) (t : Addr) : Heap := h.push { cls := .type "list_iterator", data := .fields #[.ref t, .int 0 0] }
abbrev zB2 (h : Heap) (t1 t2 : Addr) : Heap := liH (liH h t1) t2
abbrev zB3 (h : Heap) (t1 t2 : Addr) : Heap := (zB2 h t1 t2).push { cls := .type "tuple", data := .seq #[.ref h.objs.size, .ref (liH h t1).objs.size] }
abbrev zB4 (h : Heap) (t1 t2 : Addr) : Heap := (zB3 h t1 t2).push { cls := .type "tuple", data := .seq #[.none, .none] }
abbrev zB5 (h : Heap) (t1 t2 : Addr) : Heap := (zB4 h t1 t2).push { cls := .type "zip", data := .fields #[.none, .bool false, .bool false, .ref (zB2 h t1 t2).objs.size, .ref (zB3 h t1 t2).objs.size] }
theorem mk_zipL (t1 t2 : Addr) (xs ys : Array Value) : Meets (Builtin.«zip.__new__» ⟨[.type "zip", .ref t1, .ref t2], []⟩) (fun _ R s => s.heap.IsList t1 xs ∧ s.heap.IsList t2 ys ∧ R (.ok (.ret (.ref (zB4 s.heap t1 t2).objs.size))) { s with heap := zB5 s.heap t1 t2 }) :=
  .of_wp fun prog w A R s z => by
    obtain ⟨hp, g, d, tk, os⟩ := s
    obtain ⟨hx, hy, z⟩ := z
    have sub := sub_zip
    have hX : Heap.IsList (Shared.heap ⟨hp, g, d, tk, os⟩) t1 xs := hx
    have hY : Heap.IsList (Shared.heap ⟨liH hp t1, g, d, tk, os⟩) t2 ys := hy.push _
    wp_walk using wpAny_pyIter_list hX, wpAny_pyIter_list hY
    exact ⟨_, rfl, z⟩
theorem call_zipL {prog : Program} {w : World} {A : Around} {E : Value → Shared → Prop} {s : Shared} {t1 t2 : Addr} {xs ys : Array Value} {Q : Value → Shared → Prop} (hx : s.heap.IsList t1 xs) (hy : s.heap.IsList t2 ys)
    (q : ∀ h', IsZip h' (s.heap.objs.size + 4) (s.heap.objs.size + 2) (s.heap.objs.size + 3) .none → IsPair h' (s.heap.objs.size + 2) (.ref s.heap.objs.size) (.ref (s.heap.objs.size + 1)) → IsPair h' (s.heap.objs.size + 3) .none .none →
      h'.IsListIter s.heap.objs.size t1 0 → h'.IsListIter (s.heap.objs.size + 1) t2 0 → (∀ c o, s.heap.get? c = some o → h'.get? c = some o) → Q (.ref (s.heap.objs.size + 4)) { s with heap := h' }) :
    wpAny (model prog w) A (call (.type "zip") [.ref t1, .ref t2]) Q E s := by
  have n1 : (liH s.heap t1).objs.size = s.heap.objs.size + 1 := Heap.size_push ..
  have n2 : (zB2 s.heap t1 t2).objs.size = s.heap.objs.size + 2 := by rw [Heap.size_push, n1]
  have n3 : (zB3 s.heap t1 t2).objs.size = s.heap.objs.size + 3 := by rw [Heap.size_push, n2]
  have n4 : (zB4 s.heap t1 t2).objs.size = s.heap.objs.size + 4 := by rw [Heap.size_push, n3]
  have up : ∀ c o, s.heap.get? c = some o → (zB5 s.heap t1 t2).get? c = some o := fun c o e => Heap.get?_push_of_some _ (Heap.get?_push_of_some _ (Heap.get?_push_of_some _ (Heap.get?_push_of_some _ (Heap.get?_push_of_some _ e))))
  have v5 : (zB5 s.heap t1 t2).get? (zB4 s.heap t1 t2).objs.size = some _ := Heap.get?_push_size _ rfl
  have v4 : (zB5 s.heap t1 t2).get? (zB3 s.heap t1 t2).objs.size = some _ := Heap.get?_push_of_some _ (Heap.get?_push_size _ rfl)
  have v3 : (zB5 s.heap t1 t2).get? (zB2 s.heap t1 t2).objs.size = some _ := Heap.get?_push_of_some _ (Heap.get?_push_of_some _ (Heap.get?_push_size _ rfl))
  have v2 : (zB5 s.heap t1 t2).get? (liH s.heap t1).objs.size = some _ := Heap.get?_push_of_some _ (Heap.get?_push_of_some _ (Heap.get?_push_of_some _ (Heap.get?_push_size _ rfl)))
  have v1 : (zB5 s.heap t1 t2).get? s.heap.objs.size = some _ := Heap.get?_push_of_some _ (Heap.get?_push_of_some _ (Heap.get?_push_of_some _ (Heap.get?_push_of_some _ (Heap.get?_push_size _ rfl))))
  refine callType_new F.called_zip (by decide) (F.typeCall_zip_2 _ _) (F.newCall_zip_2 _ _) (fun x => F.args_object_init_3 x _ _) F.entry_zip_new (mk_zipL t1 t2 xs ys) ⟨hx, hy, ?_⟩
  show _ ∧ _
  rw [n2, n3, n4] at v5
  rw [n1, n2] at v3
  rw [n3] at v4
  rw [n1] at v2
  rw [n4]
  exact ⟨⟨_, v5, rfl⟩, q _ v5 v3 v4 ⟨_, v1, rfl, rfl⟩ ⟨_, v2, rfl, rfl⟩ up⟩
theorem sq_neL {X : Cx} {pins : List (Addr × Obj)} {σ : St} {H : Hp} {s : Shared} {a b : Addr} {xs : List V} (I : Inv X pins σ H s) (hq : SqL X.K H a xs) (hf : FpOk X pins H b) : a ≠ b := fun z => by
  rcases hq with h | ⟨o, its, n, hk, _⟩
  · rcases h with h | ⟨o, h⟩ <;> (rw [z, hf.1] at h; cases h)
  · have e : X.base.get? a = some o := I.ok.mod.kin a o hk
    rcases hf.2.2.2.1 with y | y
    · exact I.ok.noex a o e (z ▸ y)
    · have l := Heap.lt_size e
      have m := I.ok.bsz
      rw [z] at l
      exact absurd (Nat.lt_of_lt_of_le l (Nat.le_trans m y)) (Nat.lt_irrefl _)
def ItzL (K : PySem.W.Frag) (a b : Addr) : It :=
  ⟨fun i H => ∃ xs ys x y, SqL K H a xs ∧ SqL K H b ys ∧ xs[i]? = some x ∧ ys[i]? = some y, fun i H v H' => ∃ p x y, H p = none ∧ v = .ref p ∧ H' = upd H p (.tup [x, y]) ∧ (∀ xs, SqL K H a xs → xs[i]? = some x) ∧ ∀ ys, SqL K H b ys → ys[i]? = some y,
    fun i H => ∃ xs ys, SqL K H a xs ∧ SqL K H b ys ∧ (i = xs.length ∨ (i < xs.length ∧ i = ys.length))⟩
structure ZstL (z TI TO i1 i2 a b : Addr) (i : Nat) (h : Heap) : Prop where
  z : IsZip h z TI TO .none
  p : IsPair h TI (.ref i1) (.ref i2)
  o : ∃ x y, IsPair h TO x y
  l : h.IsListIter i1 a i
  r : h.IsListIter i2 b i
theorem turn_zipL {P : Program} {w : World} {K : PySem.W.Frag} {elts : List Expr} {x1} {tp : Pos} (a b z TI TO i1 i2 : Addr) (n1 : TI ≠ z) (n2 : TO ≠ z) (n3 : TI ≠ TO) (n4 : i1 ≠ z) (n5 : i2 ≠ z) (n6 : TO ≠ i1) (n7 : TO ≠ i2) (n8 : i1 ≠ i2) (n9 : TI ≠ i1) (n10 : TI ≠ i2) :
    Turn P w K (.Tuple elts x1 tp) (ItzL K a b) [z, TI, TO, i1, i2] z (ZstL z TI TO i1 i2 a b) where
  mem := by simp
  obj := fun i h st c hc => by
    obtain ⟨g1, g2, ⟨x, y, g3⟩, ⟨o4, g4, _, d4⟩, ⟨o5, g5, _, d5⟩⟩ := st
    simp only [List.mem_cons, List.not_mem_nil, or_false] at hc
    rcases hc with rfl | rfl | rfl | rfl | rfl
    · exact ⟨_, g1, fun v q => by cases q⟩
    · exact ⟨_, g2, fun v q => by cases q⟩
    · exact ⟨_, g3, fun v q => by cases q⟩
    · exact ⟨o4, g4, fun v q => by rw [d4] at q; cases q⟩
    · exact ⟨o5, g5, fun v q => by rw [d5] at q; cases q⟩
  keep := fun i h h' st k => by
    obtain ⟨g1, g2, ⟨x, y, g3⟩, g4, g5⟩ := st
    exact ⟨k z (by simp) _ g1, k TI (by simp) _ g2, ⟨x, y, k TO (by simp) _ g3⟩, g4.at fun o e => k i1 (by simp) o e, g5.at fun o e => k i2 (by simp) o e⟩
  item := by
    intro X hP hw hK hc i pins s σ H E I hf st hg
    subst hP hw hK
    obtain ⟨g1, g2, ⟨xo, yo, g3⟩, g4, g5⟩ := st
    obtain ⟨xs, ys, x, y, hx, hy, ex, ey⟩ := hg
    obtain ⟨us, ru, pu, _⟩ := I.list hx
    obtain ⟨vs, rv, pv, _⟩ := I.list hy
    obtain ⟨u, hu, ru'⟩ := ru.get ex
    obtain ⟨v, hv, rv'⟩ := rv.get ey
    have ha : ∀ c ∈ [z, TI, TO, i1, i2], a ≠ c := fun c hc => sq_neL I hx (hf c hc)
    have hb : ∀ c ∈ [z, TI, TO, i1, i2], b ≠ c := fun c hc => sq_neL I hy (hf c hc)
    have hh : X.A.in1.handled = none := I.ok.hd hc
    have Z : Zap z TI TO i1 i2 [i1, a] [i2, b] := ⟨n1, n2, n3, n4, n5, n6, n7, n8, by simp; exact ⟨n4.symm, (ha z (by simp)).symm⟩, by simp; exact ⟨n5.symm, (hb z (by simp)).symm⟩, by simp; exact ⟨n6, (ha TO (by simp)).symm⟩, by simp; exact ⟨n7, (hb TO (by simp)).symm⟩, by simp; exact ⟨n8, (hb i1 (by simp)).symm⟩, by simp; exact ⟨n8.symm, (ha i2 (by simp)).symm⟩⟩
    refine zip_go Z (Draws.list hh i1 a (ha i1 (by simp)) us.toArray) (Draws.list hh i2 b (hb i2 (by simp)) vs.toArray) g1 g2 g3 (show _ ∧ _ from ⟨g4, pu.isList⟩) (show _ ∧ _ from ⟨g5, pv.isList⟩) (by have := (List.getElem?_eq_some_iff.mp hu).1; simpa using this) (by have := (List.getElem?_eq_some_iff.mp hv).1; simpa using this)
      fun u' v' h' tk hu' hv' z1 z2 z3 z4 z5 z6 kk => ?_
    have eu : u' = u := by
      have : us[i]? = some u' := by simpa using hu'
      rw [hu] at this; exact (Option.some.inj this).symm
    have ev : v' = v := by
      have : vs[i]? = some v' := by simpa using hv'
      rw [hv] at this; exact (Option.some.inj this).symm
    subst eu ev
    have fr : H s.heap.objs.size = none := I.hok.fresh (Nat.le_refl _)
    have I1 : Inv X pins σ (upd H s.heap.objs.size (.tup [x, y])) { s with heap := s.heap.push { cls := .type "tuple", data := .seq #[u', v'] }, toks := tk } :=
      I.laid (t' := tk) (fun b v z => Heap.get?_push_of_some _ z) (Nat.le_refl _) ⟨(by show 2 ≤ sizeLine; decide), [u', v'], .cons ru' (.cons rv' .nil), ⟨_, Heap.get?_push_size _ rfl, rfl, _, rfl⟩⟩
    have lt : ∀ c ∈ [z, TI, TO, i1, i2], c < s.heap.objs.size := fun c hc => by
      simp only [List.mem_cons, List.not_mem_nil, or_false] at hc
      rcases hc with rfl | rfl | rfl | rfl | rfl
      · exact Heap.lt_size g1
      · exact Heap.lt_size g2
      · exact Heap.lt_size g3
      · obtain ⟨o, e, _⟩ := g4; exact Heap.lt_size e
      · obtain ⟨o, e, _⟩ := g5; exact Heap.lt_size e
    have f1 : ∀ c ∈ [z, TI, TO, i1, i2], FpOk X pins (upd H s.heap.objs.size (.tup [x, y])) c := fun c hc => ⟨by rw [upd_ne (Nat.ne_of_lt (lt c hc))]; exact (hf c hc).1, (hf c hc).2⟩
    have I2 : Inv X pins σ (upd H s.heap.objs.size (.tup [x, y])) { s with heap := h', toks := tk } := I1.turnedL (t' := tk) (fun c o nc e => by
      have m : ∀ d ∈ [z, TI, TO, i1, i2], c ≠ d := fun d hd y => nc (y ▸ hd)
      by_cases y : c = s.heap.objs.size
      · subst y
        rw [Heap.get?_push_size _ rfl] at e
        cases e
        exact z5
      · rcases Heap.get?_push_cases e with w | w
        · exact absurd w.1 y
        · exact kk c o (m z (by simp)) (m TO (by simp)) (m i1 (by simp)) (m i2 (by simp)) w) f1
    have g2' : IsPair h' TI (.ref i1) (.ref i2) := kk _ _ n1 n3 n9 n10 g2
    refine ⟨_, rfl, wpAny_letOwnedTupleGo_zip z1 fun h2 zz sb => ⟨.ref s.heap.objs.size, _, I2.turnedL (fp := [z, TI, TO, i1, i2]) (t' := tk) (fun c o nc e => sb.extBut c o (fun y => nc (by simp [y])) e) f1, rfl, ⟨_, x, y, fr, rfl, rfl, fun xs' h => by rw [I.list_inj h hx]; exact ex, fun ys' h => by rw [I.list_inj h hy]; exact ey⟩, ⟨zz, sb.extBut _ _ n1 g2', ⟨_, _, sb.extBut _ _ n2 z2⟩, ?_, ?_⟩, fun c hc => (f1 c hc).1⟩⟩
    · exact z3.1.at fun o e => sb.extBut i1 o n4 e
    · exact z4.1.at fun o e => sb.extBut i2 o n5 e
  done := by
    intro X hP hw hK hc i pins s σ H E I hf st hg
    subst hP hw hK
    obtain ⟨g1, g2, ⟨xo, yo, g3⟩, g4, g5⟩ := st
    obtain ⟨xs, ys, hx, hy, hl⟩ := hg
    obtain ⟨us, ru, pu, _⟩ := I.list hx
    obtain ⟨vs, rv, pv, _⟩ := I.list hy
    have ha : ∀ c ∈ [z, TI, TO, i1, i2], a ≠ c := fun c hc => sq_neL I hx (hf c hc)
    have hb : ∀ c ∈ [z, TI, TO, i1, i2], b ≠ c := fun c hc => sq_neL I hy (hf c hc)
    have hh : X.A.in1.handled = none := I.ok.hd hc
    have Z : Zap z TI TO i1 i2 [i1, a] [i2, b] := ⟨n1, n2, n3, n4, n5, n6, n7, n8, by simp; exact ⟨n4.symm, (ha z (by simp)).symm⟩, by simp; exact ⟨n5.symm, (hb z (by simp)).symm⟩, by simp; exact ⟨n6, (ha TO (by simp)).symm⟩, by simp; exact ⟨n7, (hb TO (by simp)).symm⟩, by simp; exact ⟨n8, (hb i1 (by simp)).symm⟩, by simp; exact ⟨n8.symm, (ha i2 (by simp)).symm⟩⟩
    have l1 := ru.length
    have l2 := rv.length
    refine zip_out Z (Draws.list hh i1 a (ha i1 (by simp)) us.toArray) (Draws.list hh i2 b (hb i2 (by simp)) vs.toArray) g1 g2 g3 (show _ ∧ _ from ⟨g4, pu.isList⟩) (show _ ∧ _ from ⟨g5, pv.isList⟩) (by simp; omega) fun h' tk kk => ⟨rfl, I.turnedL (fp := [z, TI, TO, i1, i2]) (t' := tk) (fun c o nc e => ?_) hf⟩
    have m : ∀ d ∈ [z, TI, TO, i1, i2], c ≠ d := fun d hd y => nc (y ▸ hd)
    exact kk c o (m z (by simp)) (m TO (by simp)) (m i1 (by simp)) (m i2 (by simp)) e
  self := fun _ _ _ _ _ st h => wpAny_pyIter_zip st.z h
section
variable {X : Cx}
def iZipL (K : PySem.W.Frag) (ta : TA) : TI := fun σ H R => ta σ H fun vs H1 => ∃ a b, vs = [.ref a, .ref b] ∧ (∃ xs, SqL K H1 a xs) ∧ (∃ ys, SqL K H1 b ys) ∧ R (ItzL K a b) H1
theorem pi_zipL {K : PySem.W.Frag} {e e' : Expr} {elts : List Expr} {x1} {tp p pos : Pos} {ta : TA} (hK : X.K = K) (hm : X.mg "zip" = none) (ha : PA X [e, e'] ta) (hg : Gl X "zip" := by rfl) (h1 : plainE e = true := by rfl) (h2 : plainE e' = true := by rfl) :
    PI X (.Tuple elts x1 tp) (.Call (.Name "zip" p) [e, e'] [] pos) (iZipL K ta) := by
  subst hK
  refine .mk ?_
  intro pins s σ H R I h
  refine wpAny_Call_Name_kw (ld_blt I hg hm bt_zip ?_ (by decide) (by decide))
  refine PyProof.Rows.callWith_type1 (thn (ha pos pins s σ H _ I h) fun us s1 ⟨vs, H1, I1, r1, q1⟩ => ?_) (star_one h1) (star_none (es := [e']) (by simp [h2]))
  obtain ⟨a, b, rfl, ⟨xs, hx⟩, ⟨ys, hy⟩, q⟩ := q1
  obtain ⟨u, v, rfl, ru, rv⟩ := r1.two
  cases ru
  cases rv
  obtain ⟨us, _, pu, _⟩ := I1.list hx
  obtain ⟨ws, _, pw, _⟩ := I1.list hy
  refine call_zipL pu.isList pw.isList fun h' hz hp ho h1 h2 kk => ?_
  have I2 : Inv X pins σ H1 { s1 with heap := h' } := I1.kept (t' := s1.toks) kk
  have fr : ∀ n, H1 (s1.heap.objs.size + n) = none := fun n => I1.hok.fresh (Nat.le_add_right _ _)
  have fk : ∀ n, FpOk X pins H1 (s1.heap.objs.size + n) := fun n => I1.fpOk (Nat.le_add_right _ _) (fr n)
  have ne : ∀ i j : Nat, i ≠ j → s1.heap.objs.size + i ≠ s1.heap.objs.size + j := fun i j n e => n (Nat.add_left_cancel e)
  refine wpAny_pyIter_zip hz ⟨s1.heap.objs.size + 4, _, _, ItzL X.K a b, H1, rfl, I2, turn_zipL a b (s1.heap.objs.size + 4) (s1.heap.objs.size + 2) (s1.heap.objs.size + 3) s1.heap.objs.size (s1.heap.objs.size + 1) (ne _ _ (by decide)) (ne _ _ (by decide)) (ne _ _ (by decide)) (ne 0 _ (by decide)) (ne _ _ (by decide)) (ne _ 0 (by decide)) (ne _ _ (by decide)) (ne 0 _ (by decide)) (ne _ 0 (by decide)) (ne _ _ (by decide)), ⟨hz, hp, ⟨_, _, ho⟩, h1, h2⟩, fun c hc => ?_, q⟩
  simp only [List.mem_cons, List.not_mem_nil, or_false] at hc
  rcases hc with rfl | rfl | rfl | rfl | rfl
  · exact fk 4
  · exact fk 2
  · exact fk 3
  · exact fk 0
  · exact fk 1
end
/-- a comprehension of pairs out of zip of two lists of one length -/
theorem comp_zipL {K : PySem.W.Frag} {js : List Nat} {a b : Addr} {xs ys : List V} {es : List PyData} {ta : TA} {te : TE} {σ : St} {H : Hp} {Q : VK} (hl : ∀ R : List V → Hp → Prop, R [.ref a, .ref b] H → ta σ H R) (ha : H a = some (.lst xs)) (hb : H b = some (.lst ys)) (n1 : xs.length = es.length) (n2 : ys.length = es.length) (hz : es.length ≤ sizeLine) (hL : noLAll es = true)
    (val : ∀ (i : Nat) x y e H', xs[i]? = some x → ys[i]? = some y → es[i]? = some e → Same H H' → ∀ R : VK, (∀ v H'', Same H' H'' → At H'' e v → R v H'') → te (some x :: some y :: capS js σ) H' R)
    (fin : ∀ acc zs H', Same H H' → H acc = none → H' acc = some (.lst zs) → AtAll (hid acc H') es zs → Q (.ref acc) H') : tCompG 2 js (iZipL K ta) (gTup K 2 (gCons (gName 0) (gCons (gName 1) gNil))) tAll te σ H Q := by
  refine hl _ ⟨a, b, rfl, ⟨xs, SqL.of ha⟩, ⟨ys, SqL.of hb⟩, fun acc hacc => ?_⟩
  have gx : ∀ i, i < es.length → xs[i]? = some (xs.getD i .non) := fun i hi => by rw [List.getD_eq_getElem?_getD, List.getElem?_eq_getElem (by omega)]; rfl
  have gy : ∀ i, i < es.length → ys[i]? = some (ys.getD i .non) := fun i hi => by rw [List.getD_eq_getElem?_getD, List.getElem?_eq_getElem (by omega)]; rfl
  refine compP_core (es := es) (fun i => xs.getD i .non) (fun i => ys.getD i .non) hz hL hacc (fun i H' hi s => ⟨xs, ys, _, _, SqL.of (s _ _ ha), SqL.of (s _ _ hb), gx i hi, gy i hi⟩) (fun i H' v H'' hi s y => ?_) (fun H' s => ⟨xs, ys, SqL.of (s _ _ ha), SqL.of (s _ _ hb), .inl n1.symm⟩) (fun i e H' he s R hR => ?_) fun zs H' s h1 h2 => fin acc zs H' s hacc h1 h2
  · obtain ⟨p, x, y, fp, e1, e2, h1, h2⟩ := y
    have q1 := h1 xs (SqL.of (s _ _ ha))
    have q2 := h2 ys (SqL.of (s _ _ hb))
    rw [gx i hi] at q1
    rw [gy i hi] at q2
    cases q1
    cases q2
    exact ⟨p, fp, e1, e2⟩
  · have hi : i < es.length := by
      by_cases z : i < es.length
      · exact z
      · rw [List.getElem?_eq_none (by omega)] at he; cases he
    exact val i _ _ e H' (gx i hi) (gy i hi) he s R hR
end L2
namespace L2
open PySem PySem.Spec PyProof.Rows
/-- a comprehension over a list, with an invariant of one's own -/
theorem comp_LJ {K : PySem.W.Frag} {js : List Nat} {a : Addr} {xs : List V} {tl te : TE} {σ : St} {H : Hp} {Q : VK} (hl : ∀ R : VK, R (.ref a) H → tl σ H R) (ha : H a = some (.lst xs)) (hz : xs.length ≤ sizeLine)
    (h : ∀ acc, H acc = none → ∃ Pv : Nat → List V → Hp → Prop, Pv 0 [] (upd H acc (.lst [])) ∧ (∀ i ys H', i ≤ xs.length → Pv i ys H' → ys.length = i ∧ H' a = some (.lst xs) ∧ H' acc = some (.lst ys)) ∧
      (∀ i x ys H', xs[i]? = some x → Pv i ys H' → ∀ R : VK, (∀ y H'', H'' acc = some (.lst ys) → Pv (i + 1) (ys ++ [y]) (upd H'' acc (.lst (ys ++ [y]))) → R y H'') → te (some x :: capS js σ) H' R) ∧
      ∀ ys H', Pv xs.length ys H' → Q (.ref acc) H') : tComp js (iList K tl) te σ H Q := by
  refine hl _ ⟨a, rfl, ⟨xs, SqL.of ha⟩, fun acc hacc => ?_⟩
  obtain ⟨Pv, p0, keep, step, fin⟩ := h acc hacc
  refine ⟨fun i m ys H2 => m = xs.length - i ∧ i ≤ xs.length ∧ Pv i ys H2, ⟨_, rfl, Nat.zero_le _, p0⟩, ?_⟩
  rintro i m ys H2 ⟨rfl, hi, p⟩
  obtain ⟨ly, ka, kc⟩ := keep i ys H2 hi p
  by_cases hlt : i < xs.length
  · refine .inr ⟨⟨xs, xs[i], SqL.of ka, List.getElem?_eq_getElem hlt⟩, fun x H3 y => ?_⟩
    obtain ⟨e, y⟩ := y
    subst e
    exact step i x ys H3 (y xs (SqL.of ka)) p _ fun y' H4 e4 p4 => ⟨e4, by omega, xs.length - (i + 1), by omega, rfl, hlt, p4⟩
  · have e : i = xs.length := by omega
    subst e
    exact .inl ⟨⟨xs, SqL.of ka, Nat.le_refl _⟩, fin _ _ p⟩
/-- the same over a tuple -/
theorem comp_TJ {K : PySem.W.Frag} {js : List Nat} {a : Addr} {xs : List V} {tl te : TE} {σ : St} {H : Hp} {Q : VK} (hl : ∀ R : VK, R (.ref a) H → tl σ H R) (ha : H a = some (.tup xs)) (hz : xs.length ≤ sizeLine)
    (h : ∀ acc, H acc = none → ∃ Pv : Nat → List V → Hp → Prop, Pv 0 [] (upd H acc (.lst [])) ∧ (∀ i ys H', i ≤ xs.length → Pv i ys H' → ys.length = i ∧ H' a = some (.tup xs) ∧ H' acc = some (.lst ys)) ∧
      (∀ i x ys H', xs[i]? = some x → Pv i ys H' → ∀ R : VK, (∀ y H'', H'' acc = some (.lst ys) → Pv (i + 1) (ys ++ [y]) (upd H'' acc (.lst (ys ++ [y]))) → R y H'') → te (some x :: capS js σ) H' R) ∧
      ∀ ys H', Pv xs.length ys H' → Q (.ref acc) H') : tComp js (iTup K tl) te σ H Q := by
  refine hl _ ⟨a, rfl, ⟨xs, SqT.of ha⟩, fun acc hacc => ?_⟩
  obtain ⟨Pv, p0, keep, step, fin⟩ := h acc hacc
  refine ⟨fun i m ys H2 => m = xs.length - i ∧ i ≤ xs.length ∧ Pv i ys H2, ⟨_, rfl, Nat.zero_le _, p0⟩, ?_⟩
  rintro i m ys H2 ⟨rfl, hi, p⟩
  obtain ⟨ly, ka, kc⟩ := keep i ys H2 hi p
  by_cases hlt : i < xs.length
  · refine .inr ⟨⟨xs, xs[i], SqT.of ka, List.getElem?_eq_getElem hlt⟩, fun x H3 y => ?_⟩
    obtain ⟨e, y⟩ := y
    subst e
    exact step i x ys H3 (y xs (SqT.of ka)) p _ fun y' H4 e4 p4 => ⟨e4, by omega, xs.length - (i + 1), by omega, rfl, hlt, p4⟩
  · have e : i = xs.length := by omega
    subst e
    exact .inl ⟨⟨xs, SqT.of ka, Nat.le_refl _⟩, fin _ _ p⟩
/-- texts of a list, each made of a thing of it, the heap only growing -/
theorem comp_LS {K : PySem.W.Frag} {js : List Nat} {a : Addr} {xs : List V} {zs : List Str} {tl te : TE} {σ : St} {H : Hp} {Q : VK} (hl : ∀ R : VK, R (.ref a) H → tl σ H R) (ha : H a = some (.lst xs)) (hz : xs.length ≤ sizeLine) (hn : zs.length = xs.length)
    (step : ∀ (i : Nat) x z H', xs[i]? = some x → zs[i]? = some z → Same H H' → ∀ R : VK, (∀ H'', Same H' H'' → R (.str z) H'') → te (some x :: capS js σ) H' R)
    (fin : ∀ acc H', Same H H' → H acc = none → H' acc = some (.lst (zs.map V.str)) → Q (.ref acc) H') : tComp js (iList K tl) te σ H Q := by
  refine comp_LJ hl ha hz fun acc hacc => ⟨fun i ys H' => i ≤ xs.length ∧ ys = (zs.take i).map V.str ∧ Same H H' ∧ H' acc = some (.lst ys), ⟨Nat.zero_le _, rfl, same_new hacc _, upd_same⟩, ?_, ?_, ?_⟩
  · rintro i ys H' hi ⟨_, rfl, s, e⟩
    exact ⟨by rw [List.length_map, List.length_take]; omega, s _ _ ha, e⟩
  · rintro i x ys H' hx ⟨_, rfl, s, e⟩ R hR
    have hlt : i < xs.length := (List.getElem?_eq_some_iff.mp hx).1
    have hz' : zs[i]? = some (zs[i]'(by omega)) := List.getElem?_eq_getElem (by omega)
    refine step i x _ H' hx hz' s R fun H'' s'' => hR _ _ (s'' _ _ e) ⟨hlt, ?_, ?_, upd_same⟩
    · rw [List.take_succ_eq_append_getElem (by omega), List.map_append]; rfl
    · exact (s.trans s'').updN hacc
  · rintro ys H' ⟨_, rfl, s, e⟩
    rw [← hn, List.take_length] at e
    exact fin acc H' s hacc e
theorem comp_TS {K : PySem.W.Frag} {js : List Nat} {a : Addr} {xs : List V} {zs : List Str} {tl te : TE} {σ : St} {H : Hp} {Q : VK} (hl : ∀ R : VK, R (.ref a) H → tl σ H R) (ha : H a = some (.tup xs)) (hz : xs.length ≤ sizeLine) (hn : zs.length = xs.length)
    (step : ∀ (i : Nat) x z H', xs[i]? = some x → zs[i]? = some z → Same H H' → ∀ R : VK, (∀ H'', Same H' H'' → R (.str z) H'') → te (some x :: capS js σ) H' R)
    (fin : ∀ acc H', Same H H' → H acc = none → H' acc = some (.lst (zs.map V.str)) → Q (.ref acc) H') : tComp js (iTup K tl) te σ H Q := by
  refine comp_TJ hl ha hz fun acc hacc => ⟨fun i ys H' => i ≤ xs.length ∧ ys = (zs.take i).map V.str ∧ Same H H' ∧ H' acc = some (.lst ys), ⟨Nat.zero_le _, rfl, same_new hacc _, upd_same⟩, ?_, ?_, ?_⟩
  · rintro i ys H' hi ⟨_, rfl, s, e⟩
    exact ⟨by rw [List.length_map, List.length_take]; omega, s _ _ ha, e⟩
  · rintro i x ys H' hx ⟨_, rfl, s, e⟩ R hR
    have hlt : i < xs.length := (List.getElem?_eq_some_iff.mp hx).1
    have hz' : zs[i]? = some (zs[i]'(by omega)) := List.getElem?_eq_getElem (by omega)
    refine step i x _ H' hx hz' s R fun H'' s'' => hR _ _ (s'' _ _ e) ⟨hlt, ?_, ?_, upd_same⟩
    · rw [List.take_succ_eq_append_getElem (by omega), List.map_append]; rfl
    · exact (s.trans s'').updN hacc
  · rintro ys H' ⟨_, rfl, s, e⟩
    rw [← hn, List.take_length] at e
    exact fin acc H' s hacc e
end L2
namespace L2
open PySem
/-- things of which == and != can be asked -/
structure Pl (n : Nat) (d : PyData) : Prop where
  hd : d.hasDict = false
  cl : d.canLay0 = true
  dp : d.depth ≤ n
theorem Pl.all {n : Nat} : ∀ {ds : List PyData}, (∀ d ∈ ds, Pl n d) → PyData.hasDictAll ds = false ∧ PyData.canLayAll0 ds = true ∧ PyData.depthAll ds ≤ n
  | [], _ => ⟨rfl, rfl, Nat.zero_le _⟩
  | d :: ds, h => by
    obtain ⟨h1, h2, h3⟩ := Pl.all fun x hx => h x (List.mem_cons_of_mem d hx)
    obtain ⟨g1, g2, g3⟩ := h d (List.mem_cons_self ..)
    refine ⟨?_, ?_, ?_⟩
    · show (PyData.hasDict d || PyData.hasDictAll ds) = false
      rw [g1, h1]; rfl
    · show (PyData.canLay0 d && PyData.canLayAll0 ds) = true
      rw [g2, h2]; rfl
    · show max (PyData.depth d) (PyData.depthAll ds) ≤ n
      omega
theorem Pl.tup {n : Nat} {ds : List PyData} (h : ∀ d ∈ ds, Pl n d) : Pl (n + 1) (.tuple ds) := by
  obtain ⟨h1, h2, h3⟩ := Pl.all h
  exact ⟨by simpa [PyData.hasDict] using h1, by simpa [PyData.canLay0] using h2, by show PyData.depthAll ds + 1 ≤ n + 1; omega⟩
theorem Pl.lst {n : Nat} {ds : List PyData} (h : ∀ d ∈ ds, Pl n d) : Pl (n + 1) (.list ds) := by
  obtain ⟨h1, h2, h3⟩ := Pl.all h
  exact ⟨by simpa [PyData.hasDict] using h1, by simpa [PyData.canLay0] using h2, by show PyData.depthAll ds + 1 ≤ n + 1; omega⟩
theorem Pl.int {n : Nat} (i : Int) : Pl n (.int i) := ⟨rfl, rfl, Nat.zero_le _⟩
theorem Pl.bool {n : Nat} (i : Bool) : Pl n (.bool i) := ⟨rfl, rfl, Nat.zero_le _⟩
theorem Pl.none {n : Nat} : Pl n .none := ⟨rfl, rfl, Nat.zero_le _⟩
theorem Pl.str {n : Nat} {z : Str} (h : PyData.strOk z = true) : Pl n (.str z) := ⟨rfl, h, Nat.zero_le _⟩
theorem Pl.mono {n m : Nat} {d : PyData} (h : Pl n d) (e : n ≤ m) : Pl m d := ⟨h.1, h.2, Nat.le_trans h.3 e⟩
theorem Pl.map {n : Nat} {α : Type} {f : α → PyData} {l : List α} (h : ∀ x ∈ l, Pl n (f x)) : ∀ d ∈ l.map f, Pl n d := fun d hd => by
  obtain ⟨x, hx, rfl⟩ := List.mem_map.mp hd
  exact h x hx
theorem Pl.ints {n : Nat} (l : List Int) : ∀ d ∈ l.map PyData.int, Pl n d := Pl.map fun x _ => Pl.int x
theorem Pl.cons {n : Nat} {d : PyData} {ds : List PyData} (h : Pl n d) (r : ∀ x ∈ ds, Pl n x) : ∀ x ∈ d :: ds, Pl n x := fun x hx => by
  rcases List.mem_cons.mp hx with rfl | z
  · exact h
  · exact r x z
theorem Pl.nil {n : Nat} : ∀ x ∈ ([] : List PyData), Pl n x := fun x hx => by cases hx
theorem Pl.eqv {n : Nat} {d : PyData} (h : Pl n d) : PyData.eqv d d = true := PySem.SeqAt.eqv_refl d h.cl
theorem Pl.ne {n : Nat} {d : PyData} {x y : V} {H : Hp} {Q : VK} (p : Pl n d) (hn : n ≤ 60) (hx : At H d x) (hy : At H d y) (q : Q (.bl false) H) : ∃ d e, At H d x ∧ At H e y ∧ d.hasDict = false ∧ e.hasDict = false ∧ d.canLay0 = true ∧ e.canLay0 = true ∧ d.depth ≤ 60 ∧ Q (.bl (!PyData.eqv d e)) H :=
  ⟨d, d, hx, hy, p.hd, p.hd, p.cl, p.cl, Nat.le_trans p.dp hn, by rw [p.eqv]; exact q⟩
end L2
namespace K70
open PySem L2
def top (i : Nat) : Stmt := PySem.Challenge.pw_waithands_k70_yards_written.main.body.getD i (.Pass ⟨0, 0, 0, 0⟩)
abbrev s_yard_text : Stmt := top 5
abbrev s_head_text : Stmt := top 6
abbrev s_post_rows : Stmt := top 7
abbrev s_row_text : Stmt := top 8
abbrev s_l_tape : Stmt := top 10
abbrev s_l_draw : Stmt := top 11
abbrev s_l_units : Stmt := top 12
abbrev s_l_same : Stmt := top 13
abbrev s_l_row : Stmt := top 14
abbrev s_l_post : Stmt := top 15
abbrev s_l_names : Stmt := top 16
abbrev s_l_yard : Stmt := top 17
abbrev s_l_row_words : Stmt := top 18
abbrev s_l_rules_words : Stmt := top 19
abbrev s_l_post_words : Stmt := top 20
abbrev s_l_yard_words : Stmt := top 21
abbrev s_l_text : Stmt := top 22
abbrev s_law : Stmt := top 23
structure Bi (mg : Str → Option Value) : Prop where
  abs : mg "abs" = none
  len : mg "len" = none
  int : mg "int" = none
  isinstance : mg "isinstance" = none
  str : mg "str" = none
  list : mg "list" = none
  tuple : mg "tuple" = none
  all : mg "all" = none
  bool : mg "bool" = none
  zip : mg "zip" = none
  max : mg "max" = none
  range : mg "range" = none
  sum : mg "sum" = none
  enumerate : mg "enumerate" = none
  min : mg "min" = none
structure Co (K : PySem.W.Frag) (mg : Str → Option Value) : Prop where
  EACH : Gs mg "EACH" "each"
  RULE : Gs mg "RULE" "rule"
  MORE : Gs mg "MORE" "more"
  FEWER : Gs mg "FEWER" "fewer"
local macro_rules | `(tactic| walk_at "rd") => `(tactic| simp only [L2.start, List.map_cons, List.map_nil, List.length_cons, List.length_nil, Nat.reduceAdd, Nat.reduceSub, List.replicate, List.cons_append, List.nil_append, List.append_nil,
  tSeq, tIfS, tRet, tRetN, tNext, tAsg, gName, tDrop, rd_var0, rd_varS, rd_gcons, rd_gnil, if_true, if_false, Bool.false_eq_true, Bool.not_true, Bool.not_false, rd_set0, rd_setS, rd_eqI, rd_neI, rd_eqS, rd_neS, rd_argI, rd_argB, rd_argII, rd_test, rd_int, rd_ii, tC, tOp, tUn, rI0, rI, rU, tTest, tAnd, tOr, tNot, tAndV, tOrV, tNotV, tIf, tCall, tCB, tCons, tNil, tB, tChain, tSl, tNoPart, tPart, gSub, tPar, tLst, tTup, tLstW, tTupW, tBM, tAug, tPar3, tAugS, ipI, tMaxD, tGT2])
section
variable {P : Program} {w : World} {K : PySem.W.Frag} {mg : Str → Option Value} {base : Heap} {f : Addr} {fd : FuncData} {k : Nat}


theorem op_fdivB {X : Cx} : OpR X (binaryOp .FloorDiv) (rI (fun _ j => 0 < j ∧ j < 10 ^ 60) fun i j => .int (i / j)) := opI fun i j _ _ _ _ _ hc q => by
  have h1 : (0 : Int) < j := hc.1
  have h2 : j < 10 ^ 60 := hc.2
  refine PyProof.Rows.floordiv_int (by omega) (by rw [Int.fdiv_eq_ediv_of_nonneg i (by omega)]; exact q) (.inl (PyProof.noPylong_of_log2 ?_))
  have : j.natAbs < 10 ^ 60 := by omega
  by_cases z : j.natAbs = 0
  · omega
  · have h3 : j.natAbs < 2 ^ 1000 := Nat.lt_trans this (by decide +kernel)
    have := (Nat.log2_lt z).mpr h3
    omega
structure RowT where
  w : Str
  s : Nat
  g : Str
  n : Int
  t : Int
def rowP (r : RowT) : PyData := .tuple [.str r.w, .int r.s, .str r.g, .int r.n, .int r.t]
def ruleP (rs : List RowT) : PyData := .tuple (rs.map rowP)
def rulesP (rss : List (List RowT)) : PyData := .tuple (rss.map ruleP)
structure RowIs (r : RowT) : Prop where
  w : r.w ∈ (["come", "done", "wait"] : List Str)
  s : 1 ≤ r.s ∧ r.s ≤ 4
  n : 0 ≤ r.n ∧ r.n ≤ 1000000000000
  e : r.g = "each" → 1 ≤ r.n
def triD (l : List Int) : PyData := .tuple (l.map .int)
def trsD (trs : List (List Int)) : PyData := .tuple (trs.map triD)
structure Newest (trs : List (List Int)) : Prop where
  n : trs.length = 4
  l : ∀ x ∈ trs, x.length = 3
def totOf (w : Str) (s : Nat) (trs : List (List Int)) : Int := ((trs.take s).map fun l => l.getD (whatIx w) 0).sum
def says (r : RowT) (h : Int) (trs : List (List Int)) : Option Int :=
  if r.g = "each" then some ((totOf r.w r.s trs + r.n * r.s - 1) / (r.n * r.s))
  else if (r.g = "over" ∧ totOf r.w r.s trs > r.n * r.s) ∨ (r.g = "under" ∧ totOf r.w r.s trs < r.n * r.s) then some (h + r.t) else none
def saidV : Option Int → V
  | none => .non
  | some i => .int i
def rwish (h : Int) (trs : List (List Int)) : List RowT → Int
  | [] => h
  | r :: rs => match says r h trs with
    | some i => i
    | none => rwish h trs rs
theorem tup_ats {H : Hp} {ds : List PyData} {v : V} (h : At H (.tuple ds) v) : ∃ a xs, v = .ref a ∧ H a = some (.tup xs) ∧ AtAll H ds xs := by unfold At at h; exact h
theorem AtAll.uncons {H : Hp} {d : PyData} {ds : List PyData} {xs : List V} (h : AtAll H (d :: ds) xs) : ∃ x r, xs = x :: r ∧ At H d x ∧ AtAll H ds r := by unfold AtAll at h; exact h
theorem ats_ints {H : Hp} : ∀ cs : List Int, AtAll H (cs.map .int) (cs.map V.int)
  | [] => AtAll.nil
  | c :: cs => AtAll.cons (At.int c) (ats_ints cs)
def spSays : Sp := fun vs H Q _ => ∃ (v u : V) (h : Int) (r : RowT) (trs : List (List Int)), vs = [v, .int h, u] ∧ At H (rowP r) v ∧ At H (trsD trs) u ∧ RowIs r ∧ Newest trs ∧ ∀ H', Same H H' → Q (saidV (says r h trs)) H'
theorem Says.of {v u : V} {h : Int} {r : RowT} {trs : List (List Int)} {H : Hp} {Q : VK} {E : XK} (a1 : At H (rowP r) v) (a2 : At H (trsD trs) u) (h1 : RowIs r) (h2 : Newest trs) (q : ∀ H', Same H H' → Q (saidV (says r h trs)) H') : spSays ([v, .int h, u] ++ []) H Q E := ⟨v, u, h, r, trs, rfl, a1, a2, h1, h2, q⟩
def spRw : Sp := fun vs H Q _ => ∃ (v u : V) (h : Int) (rs : List RowT) (trs : List (List Int)), vs = [v, .int h, u] ∧ At H (ruleP rs) v ∧ At H (trsD trs) u ∧ (∀ r ∈ rs, RowIs r) ∧ Newest trs ∧ ∀ H', Same H H' → Q (.int (rwish h trs rs)) H'
theorem Rw.of {v u : V} {h : Int} {rs : List RowT} {trs : List (List Int)} {H : Hp} {Q : VK} {E : XK} (a1 : At H (ruleP rs) v) (a2 : At H (trsD trs) u) (h1 : ∀ r ∈ rs, RowIs r) (h2 : Newest trs) (q : ∀ H', Same H H' → Q (.int (rwish h trs rs)) H') : spRw ([v, .int h, u] ++ []) H Q E := ⟨v, u, h, rs, trs, rfl, a1, a2, h1, h2, q⟩
def postP (d0 d1 d3 d4 d5 : PyData) (l m : Int) (rss : List (List RowT)) : PyData := .tuple [d0, d1, .tuple [.int l, .int m], d3, d4, d5, rulesP rss]
/-- a stand -/
structure Stn where
  w : Int
  r : Int
  cs : List Int
  s : Int
  t : Int
  us : List (List Int)
structure StIs (x : Stn) : Prop where
  c : x.cs.length = 5
  u : x.us.length = 3
  l : ∀ y ∈ x.us, y.length = 3
/-- a post: pace, room, (least, most), late, every, (up, down), rules -/
structure Pst where
  p : Int
  m : Int
  lo : Int
  hi : Int
  a : Nat
  e : Int
  u : Int
  d : Int
  rss : List (List RowT)
def pstD (x : Pst) : PyData := postP (.int x.p) (.int x.m) (.int x.a) (.int x.e) (.tuple [.int x.u, .int x.d]) x.lo x.hi x.rss
structure PsIs (x : Pst) : Prop where
  a : x.a ≤ 4
  p : 0 ≤ x.p ∧ x.p ≤ 1000000
  n : x.rss.length ≤ 100
  g : ∀ rs ∈ x.rss, ∀ r ∈ rs, RowIs r
end
end K70
namespace K70
open PySem L2
local macro_rules | `(tactic| walk_at "rd") => `(tactic| simp only [L2.start, List.map_cons, List.map_nil, List.length_cons, List.length_nil, Nat.reduceAdd, Nat.reduceSub, List.replicate, List.cons_append, List.nil_append, List.append_nil,
  tSeq, tIfS, tRet, tRetN, tNext, tAsg, gName, tDrop, rd_var0, rd_varS, rd_gcons, rd_gnil, if_true, if_false, Bool.false_eq_true, Bool.not_true, Bool.not_false, rd_set0, rd_setS, rd_eqI, rd_neI, rd_eqS, rd_neS, rd_argI, rd_argB, rd_argII, rd_test, rd_int, rd_ii, tC, tOp, tUn, rI0, rI, rU, tTest, tAnd, tOr, tNot, tAndV, tOrV, tNotV, tIf, tCall, tCB, tCons, tNil, tB, tChain, tSl, tNoPart, tPart, gSub, tPar, tLst, tTup])
section
variable {P : Program} {w : World} {K : PySem.W.Frag} {mg : Str → Option Value} {base : Heap} {f : Addr} {fd : FuncData} {k : Nat}

/-! ### the tape and what is drawn from it -/
def spTape (K : PySem.W.Frag) : Sp := fun vs H Q _ => ∃ (s : Addr) (ns : List Int) (i : Int), vs = [.ref s, .int i] ∧ SqL K H s (ns.map V.int) ∧ 0 ≤ i ∧ i ≤ 1000 ∧ ∀ p H', H p = none → Same H H' → Tp H' p 0 → Q (.ref p) H'
theorem sc_l_tape : FnScope ["_law_script", "_law_k", "_law_cell"] ["_law_script", "_law_k"] (defScope s_l_tape) := ⟨rfl, rfl, rfl, by decide +kernel, rfl, by decide +kernel, by decide +kernel⟩
theorem ok_l_tape (F : Fun K "_law_tape" "_law_tape" s_l_tape f fd) (B : Bi mg) : FnOk P w K mg base CX0 (k + 1) f fd ["_law_script", "_law_k"] (spTape K) := by
  refine F.ok sc_l_tape (by rintro vs H Q E ⟨a, ns, i, rfl, _⟩; rfl) (fun cdv A outer s H vs Q E hr h => ?_)
  obtain ⟨a, ns, i, rfl, hS, h0, h1, q⟩ := h
  have ND := sc_l_tape.nd
  refine ⟨_, (pss_cons (ps_set (i := 2) ND rfl (by first | exact Or.inl rfl | exact Or.inr rfl) (pe_ifExp (pt_cmpR op_lt (pv 1) (pb (call_lenK (K := K) rfl) B.len bt_len (pa_c (pv 0) pa_nil)) (nomark _)) (pe_ix ix_list (pv 0) (pv 1) (fun _ _ => rfl)) pe_int)) (pss_one (ps_ret (pe_lst (pa_c (pe_op op_mul (pb (call_abs) B.abs bt_abs (pa_c (pv 2) pa_nil)) (pt (call_intB) B.int bt_int (pa_c (pe_cmpR op_ge (pb (call_abs) B.abs bt_abs (pa_c (pv 2) pa_nil)) (pe_op op_pow pe_int pe_int) (nomark _)) pa_nil))) (pa_c (pe_op op_add (pe_op op_add (pe_op op_mod (pv 2) pe_int) (pe_op op_mul pe_int (pv 1))) pe_int) (pa_c pe_int pa_nil))))))), ?_⟩
  walk_at "rd"
  refine ⟨a, _, rfl, .inl hS, ?_⟩
  show ∃ i_1 j, V.int i = V.int i_1 ∧ V.int ((ns.map V.int).length : Int) = V.int j ∧ _
  walk_at "rd"
  have abs_nn : ∀ c : Int, 0 ≤ (if c < 0 then -c else c) := fun c => by split <;> omega
  have fin : ∀ (c x y : Int), x = (if c < 0 then -c else c) * (if decide (10 ^ Int.toNat 18 ≤ (if c < 0 then -c else c)) = true then 1 else 0) → y = c % 2305843009213693951 + 39373 * i + 17 → ∀ p, H p = none → Q (.ref p) (upd H p (.lst [.int x, .int y, .int 0])) := fun c x y ex ey p hp => by
    have hx : 0 ≤ x := by
      rw [ex]
      have nn := abs_nn c
      generalize (if c < 0 then -c else c) = u at nn ⊢
      split
      · rw [Int.mul_one]; exact nn
      · rw [Int.mul_zero]; exact Int.le_refl 0
    have h2 := Int.emod_nonneg c (show (2305843009213693951 : Int) ≠ 0 by decide)
    have h3 := Int.emod_lt_of_pos c (show (0 : Int) < 2305843009213693951 by decide)
    exact q p _ hp (same_new hp _) ⟨x, y, 0, upd_same, hx, by omega, by omega, Int.le_refl 0, Int.le_refl 0⟩
  have cm : ∀ (c : Int) (b : Bool), CMul c (if b = true then 1 else 0) := fun c b => .inr (by cases b <;> decide)
  refine and_if (fun c1 => ?_) (fun c1 => ?_)
  · have c1' := of_decide_eq_true c1
    have hi : i.toNat < ns.length := by rw [List.length_map] at c1'; omega
    refine ⟨a, _, i, .int (ns[i.toNat]), rfl, rfl, hS, ?_, ?_⟩
    · have := atI_nat (xs := ns.map V.int) (j := i.toNat) (v := .int (ns[i.toNat])) (by rw [List.getElem?_map, List.getElem?_eq_getElem hi]; rfl)
      rwa [show ((i.toNat : Nat) : Int) = i by omega] at this
    · walk_at "rd"
      refine ⟨⟨by decide, by decide, by decide⟩, cm _ _, by decide, .inl (by decide), (by show 3 ≤ sizeLine; decide), fun p hp => ?_⟩
      exact fin _ _ _ rfl rfl p hp
  · refine ⟨⟨by decide, by decide, by decide⟩, cm _ _, by decide, .inl (by decide), (by show 3 ≤ sizeLine; decide), fun p hp => ?_⟩
    exact fin 0 _ _ rfl rfl p hp
def spDraw : Sp := fun vs H Q _ => ∃ (a : Addr) (m : Int) (n : Nat), vs = [.ref a, .int m] ∧ Tp H a n ∧ n ≤ 1000000000 ∧ 0 < m ∧ m < 1000000000000000 ∧ ∀ v H', 0 ≤ v → v < m → Tp H' a (n + 1) → SX a H H' → Q (.int v) H'
theorem sc_l_draw : FnScope ["_law_tape_here", "_law_many", "_law_found", "_law_once", "_law_twice"] ["_law_tape_here", "_law_many"] (defScope s_l_draw) := ⟨rfl, rfl, rfl, by decide +kernel, rfl, by decide +kernel, by decide +kernel⟩
theorem ok_l_draw (F : Fun K "_law_draw" "_law_draw" s_l_draw f fd) (B : Bi mg) : FnOk P w K mg base CX0 (k + 1) f fd ["_law_tape_here", "_law_many"] spDraw := by
  refine F.ok sc_l_draw (by rintro vs H Q E ⟨a, m, n, rfl, _⟩; rfl) (fun cdv A outer s H vs Q E hr h => ?_)
  obtain ⟨a, m, n, rfl, ⟨x, y, z, hT, hx, hy, hy2, hz, hz2⟩, hn, hm, hm2, q⟩ := h
  have ND := sc_l_draw.nd
  refine ⟨_, (pss_cons (ps_if (pt_cmpR op_gt (pe_ix ix_obj (pv 0) pe_int (fun _ _ => rfl)) pe_int (nomark _)) (pss_cons (ps_set (i := 2) ND rfl (by first | exact Or.inl rfl | exact Or.inr rfl) (pe_op op_mod (pe_ix ix_obj (pv 0) pe_int (fun _ _ => rfl)) (pv 1))) (pss_cons (ps_asg (pe_op op_fdivB (pe_ix ix_obj (pv 0) pe_int (fun _ _ => rfl)) (pv 1)) (pg_sub (pv 0) pe_int set_list)) (pss_one (ps_ret (pv 2))))) pss_nil) (pss_cons (ps_asg (pe_op op_add (pe_ix ix_obj (pv 0) pe_int (fun _ _ => rfl)) pe_int) (pg_sub (pv 0) pe_int set_list)) (pss_cons (ps_set (i := 3) ND rfl (by first | exact Or.inl rfl | exact Or.inr rfl) (pe_op op_mod (pe_op op_pow (pe_op op_add (pe_ix ix_obj (pv 0) pe_int (fun _ _ => rfl)) (pe_op op_mul pe_int (pe_ix ix_obj (pv 0) pe_int (fun _ _ => rfl)))) pe_int) pe_int)) (pss_cons (ps_set (i := 4) ND rfl (by first | exact Or.inl rfl | exact Or.inr rfl) (pe_op op_mod (pe_op op_mul (pe_op op_add (pv 3) (pe_ix ix_obj (pv 0) pe_int (fun _ _ => rfl))) (pe_op op_add (pe_op op_add (pe_op op_mod (pv 3) pe_int) pe_int) (pe_ix ix_obj (pv 0) pe_int (fun _ _ => rfl)))) pe_int)) (pss_one (ps_ret (pe_op op_mod (pe_op op_fdiv (pe_op op_mod (pe_op op_add (pe_op op_mul (pv 4) pe_int) (pv 3)) pe_int) pe_int) (pv 1)))))))), ?_⟩
  walk_at "rd"
  refine Ix.lst hT (atI_nat (j := 0) rfl) ?_
  walk_at "rd"
  refine and_if (fun c1 => ?_) (fun c1 => ?_)
  · refine Ix.lst hT (atI_nat (j := 0) rfl) ?_
    walk_at "rd"
    refine ⟨hm, Ix.lst hT (atI_nat (j := 0) rfl) ?_⟩
    walk_at "rd"
    refine ⟨⟨hm, Int.lt_trans hm2 (by decide)⟩, a, _, 0, 0, rfl, rfl, hT, rfl, ?_⟩
    refine q _ _ (Int.emod_nonneg _ (by omega)) (Int.emod_lt_of_pos _ hm) ⟨x / m, y, z, upd_same, Int.ediv_nonneg hx (by omega), hy, hy2, hz, by omega⟩ SX.upd
  · refine Ix.lst hT (atI_nat (j := 2) rfl) ?_
    walk_at "rd"
    refine ⟨a, _, 2, 2, rfl, rfl, hT, rfl, ?_⟩
    have hT2 : upd H a (.lst [.int x, .int y, .int (z + 1)]) a = some (.lst [.int x, .int y, .int (z + 1)]) := upd_same
    show rIxO (V.ref a) (V.int 1) (upd H a (.lst [.int x, .int y, .int (z + 1)])) _
    generalize eH : upd H a (.lst [.int x, .int y, .int (z + 1)]) = H2 at hT2 ⊢
    have sx : SX a H H2 := by rw [← eH]; exact SX.upd
    refine Ix.lst hT2 (atI_nat (j := 1) rfl) (Ix.lst hT2 (atI_nat (j := 2) rfl) ?_)
    walk_at "rd"
    refine ⟨.inl (by decide), ⟨by decide, by decide, by omega⟩, by decide, Ix.lst hT2 (atI_nat (j := 2) rfl) ?_⟩
    generalize eo : (y + 39373 * (z + 1)) ^ Int.toNat 5 % 2147483647 = o
    have o1 : 0 ≤ o := by rw [← eo]; exact Int.emod_nonneg _ (by decide)
    have o2 : o < 2147483647 := by rw [← eo]; exact Int.emod_lt_of_pos _ (by decide)
    walk_at "rd"
    refine ⟨by decide, Ix.lst hT2 (atI_nat (j := 2) rfl) ?_⟩
    walk_at "rd"
    have m1 := Int.emod_nonneg o (show (40009 : Int) ≠ 0 by decide)
    have m2 := Int.emod_lt_of_pos o (show (0 : Int) < 40009 by decide)
    refine ⟨.inl (by omega), by decide, ?_⟩
    generalize et : (o + (z + 1)) * (o % 40009 + 7 + (z + 1)) % 2147483629 = t
    have t1 : 0 ≤ t := by rw [← et]; exact Int.emod_nonneg _ (by decide)
    have t2 : t < 2147483629 := by rw [← et]; exact Int.emod_lt_of_pos _ (by decide)
    refine ⟨.inl (by omega), by decide, ⟨by decide, by decide⟩, hm, ?_⟩
    exact q _ _ (Int.emod_nonneg _ (by omega)) (Int.emod_lt_of_pos _ hm) ⟨x, y, z + 1, hT2, hx, hy, hy2, by omega, by omega⟩ sx
theorem Draw.of {a : Addr} {m : Int} {n : Nat} {H : Hp} {Q : VK} {E : XK} (t : Tp H a n) (hn : n ≤ 1000000000) (h1 : 0 < m) (h2 : m < 1000000000000000) (q : ∀ v H', 0 ≤ v → v < m → Tp H' a (n + 1) → SX a H H' → Q (.int v) H') : spDraw ([.ref a, .int m] ++ []) H Q E := ⟨a, m, n, rfl, t, hn, h1, h2, q⟩
end
end K70
namespace K70
open PySem L2
local macro_rules | `(tactic| walk_at "rd") => `(tactic| simp only [L2.start, List.map_cons, List.map_nil, List.length_cons, List.length_nil, Nat.reduceAdd, Nat.reduceSub, List.replicate, List.cons_append, List.nil_append, List.append_nil,
  tSeq, tIfS, tRet, tRetN, tNext, tAsg, gName, tDrop, rd_var0, rd_varS, rd_gcons, rd_gnil, if_true, if_false, Bool.false_eq_true, Bool.not_true, Bool.not_false, rd_set0, rd_setS, rd_eqI, rd_neI, rd_eqS, rd_neS, rd_argI, rd_argB, rd_argII, rd_test, rd_int, rd_ii, tC, tOp, tUn, rI0, rI, rU, tTest, tAnd, tOr, tNot, tAndV, tOrV, tNotV, tIf, tCall, tCB, tCons, tNil, tB, tChain, tSl, tNoPart, tPart, gSub, tPar, tLst, tTup, tLstW, tTupW, tBM, tAug, tPar3, tAugS, ipI, tMaxD, tGT2])
section
variable {P : Program} {w : World} {K : PySem.W.Frag} {mg : Str → Option Value} {base : Heap} {f : Addr} {fd : FuncData} {k : Nat}
def spUnits : Sp := fun vs H Q _ => ∃ (a : Addr) (n : Nat), vs = [.ref a] ∧ Tp H a n ∧ n ≤ 900000000 ∧ ∀ v H', 0 ≤ v → v ≤ 1000000000000 → Tp H' a (n + 4) → SX a H H' → Q (.int v) H'
theorem Units.of {a : Addr} {n : Nat} {H : Hp} {Q : VK} {E : XK} (t : Tp H a n) (hn : n ≤ 900000000) (q : ∀ v H', 0 ≤ v → v ≤ 1000000000000 → Tp H' a (n + 4) → SX a H H' → Q (.int v) H') : spUnits ([.ref a] ++ []) H Q E := ⟨a, n, rfl, t, hn, q⟩
theorem sc_l_units : FnScope ["_law_tape_here", "_law_way", "_law_great"] ["_law_tape_here"] (defScope s_l_units) := ⟨rfl, rfl, rfl, by decide +kernel, rfl, by decide +kernel, by decide +kernel⟩
theorem ok_l_units (F : Fun K "_law_units" "_law_units" s_l_units f fd) (B : Bi mg) (c_l_draw : Ct P w K mg base k "_law_draw" ["_law_tape_here", "_law_many"] spDraw) : FnOk P w K mg base CX0 (k + 1) f fd ["_law_tape_here"] spUnits := by
  refine F.ok sc_l_units (by rintro vs H Q E ⟨a, n, rfl, _⟩; rfl) (fun cdv A outer s H vs Q E hr h => ?_)
  obtain ⟨a, n, rfl, tp, hn, q⟩ := h
  have ND := sc_l_units.nd
  refine ⟨_, (pss_cons (ps_set (i := 1) ND rfl (by first | exact Or.inl rfl | exact Or.inr rfl) (pf c_l_draw hr (pa_c (pv 0) (pa_c pe_int pa_nil)))) (pss_cons (ps_if (pt_cmpR op_lt (pv 1) pe_int (nomark _)) (pss_one (ps_ret (pf c_l_draw hr (pa_c (pv 0) (pa_c pe_int pa_nil))))) pss_nil) (pss_cons (ps_if (pt_cmpR op_eq (pv 1) pe_int (nomark _)) (pss_one (ps_ret (pf c_l_draw hr (pa_c (pv 0) (pa_c pe_int pa_nil))))) pss_nil) (pss_cons (ps_set (i := 2) ND rfl (by first | exact Or.inl rfl | exact Or.inr rfl) (pe_op op_add (pe_op op_mul (pf c_l_draw hr (pa_c (pv 0) (pa_c (pe_op op_pow pe_int pe_int) pa_nil))) (pe_op op_pow pe_int pe_int)) (pf c_l_draw hr (pa_c (pv 0) (pa_c (pe_op op_pow pe_int pe_int) pa_nil))))) (pss_one (ps_ret (pe_ifExp (pt_cmpR op_eq (pv 1) pe_int (nomark _)) (pv 2) (pe_op op_sub (pe_op op_pow pe_int pe_int) (pe_op op_mod (pv 2) pe_int))))))))), ?_⟩
  walk_at "rd"
  refine Draw.of tp (by omega) (by decide) (by decide) fun v1 H1 l1 u1 t1 s1 => ?_
  walk_at "rd"
  refine and_if (fun c1 => ?_) (fun c1 => ?_)
  · refine Draw.of t1 (by omega) (by decide) (by decide) fun v2 H2 l2 u2 t2 s2 => ?_
    exact q v2 H2 l2 (by omega) (t2.mono (by omega)) (s1.trans s2)
  · refine and_if (fun c2 => ?_) (fun c2 => ?_)
    · refine Draw.of t1 (by omega) (by decide) (by decide) fun v2 H2 l2 u2 t2 s2 => ?_
      exact q v2 H2 l2 (by omega) (t2.mono (by omega)) (s1.trans s2)
    · refine ⟨⟨by decide, by decide, by decide⟩, ?_⟩
      refine Draw.of t1 (by omega) (by decide) (by decide) fun v2 H2 l2 u2 t2 s2 => ?_
      walk_at "rd"
      have e6 : (10 : Int) ^ Int.toNat 6 = 1000000 := by decide
      have e12 : (10 : Int) ^ Int.toNat 12 = 1000000000000 := by decide
      rw [e6] at u2
      refine ⟨⟨by decide, by decide, by decide⟩, .inr (by decide), ⟨by decide, by decide, by decide⟩, ?_⟩
      refine Draw.of t2 (by omega) (by decide) (by decide) fun v3 H3 l3 u3 t3 s3 => ?_
      rw [e6] at u3
      walk_at "rd"
      rw [e6, e12]
      refine and_if (fun c3 => ?_) (fun c3 => ?_)
      · exact q _ H3 (by omega) (by omega) (t3.mono (by omega)) (s1.trans (s2.trans s3))
      · have m1 := Int.emod_nonneg (v2 * 1000000 + v3) (show (3 : Int) ≠ 0 by decide)
        have m2 := Int.emod_lt_of_pos (v2 * 1000000 + v3) (show (0 : Int) < 3 by decide)
        exact ⟨⟨by decide, by decide, by decide⟩, by decide, q _ H3 (by omega) (by omega) (t3.mono (by omega)) (s1.trans (s2.trans s3))⟩
end
end K70
namespace K70
open PySem L2
local macro_rules | `(tactic| walk_at "rd") => `(tactic| simp only [L2.start, List.map_cons, List.map_nil, List.length_cons, List.length_nil, Nat.reduceAdd, Nat.reduceSub, List.replicate, List.cons_append, List.nil_append, List.append_nil,
  tSeq, tIfS, tRet, tRetN, tNext, tAsg, gName, tDrop, rd_var0, rd_varS, rd_gcons, rd_gnil, if_true, if_false, Bool.false_eq_true, Bool.not_true, Bool.not_false, rd_set0, rd_setS, rd_eqI, rd_neI, rd_eqS, rd_neS, rd_argI, rd_argB, rd_argII, rd_test, rd_int, rd_ii, tC, tOp, tUn, rI0, rI, rU, tTest, tAnd, tOr, tNot, tAndV, tOrV, tNotV, tIf, tCall, tCB, tCons, tNil, tB, tChain, tSl, tNoPart, tPart, gSub, tPar, tLst, tTup, tLstW, tTupW, tBM, tAug, tPar3, tAugS, ipI, tMaxD, tGT2, tFv, tJs, tJ1, tJ0, tTru])
section
variable {P : Program} {w : World} {K : PySem.W.Frag} {mg : Str → Option Value} {base : Heap} {f : Addr} {fd : FuncData} {k : Nat}
local macro_rules | `(tactic| walk_at "len") => `(tactic| (simp only [Str.length_append, tx_len, List.length_append, List.length_cons, List.length_nil, sizeLine_eq, show Str.empty.length = 0 from rfl, show (Str.ofString " ").length = 1 from rfl, show (Str.ofString " in ").length = 4 from rfl]; omega))
structure RowG (r : RowT) : Prop where
  is : RowIs r
  g : r.g ∈ (["over", "under", "each"] : List Str)
  z : r.g = "each" → r.t = 0
  t : r.g ≠ "each" → -12 ≤ r.t ∧ r.t ≤ 12 ∧ r.t ≠ 0
/-- the signs of a text -/
def sg (z : Str) : List Nat := z.cps.toList
theorem tx_sg (z : Str) : tx (sg z) = z := (tx_of rfl).symm
theorem sg_len (z : Str) : (sg z).length = z.length := Array.length_toList
def absN (t : Int) : Int := if t < 0 then -t else t
def rowWd (r : RowT) : List (List Nat) := [sg r.w, sg r.g, dg r.n, [105, 110], dg r.s] ++ (if r.g = "each" then [] else [if 0 < r.t then sg "more" else sg "fewer", dg (absN r.t)])
def rowTx (r : RowT) : List Nat := jn [32] (rowWd r)
theorem row_lens {r : RowT} (h : RowG r) : r.w.length ≤ 4 ∧ r.g.length ≤ 5 ∧ (dg r.n).length ≤ 13 ∧ (dg r.s).length ≤ 1 ∧ (dg (absN r.t)).length ≤ 2 := by
  have hw := h.is.w
  have hg := h.g
  simp only [List.mem_cons, List.not_mem_nil, or_false] at hw hg
  refine ⟨?_, ?_, dg_len (by decide) (by have := h.is.n; omega), dg_len (by decide) (by have := h.is.s; omega), dg_len (by decide) ?_⟩
  · rcases hw with z | z | z <;> rw [z] <;> decide
  · rcases hg with z | z | z <;> rw [z] <;> decide
  · by_cases e : r.g = "each"
    · rw [h.z e]; decide
    · have := h.t e
      unfold absN
      split <;> omega
def spRowT : Sp := fun vs H Q _ => ∃ (v : V) (r : RowT), vs = [v] ∧ At H (rowP r) v ∧ RowG r ∧ Q (.str (tx (rowTx r))) H
theorem sc_row_text : FnScope ["row", "what", "span", "sign", "number", "step", "looks"] ["row"] (defScope s_row_text) := ⟨rfl, rfl, rfl, by decide +kernel, rfl, by decide +kernel, by decide +kernel⟩
theorem ok_row_text (F : Fun K "row_text" "row_text" s_row_text f fd) (B : Bi mg) (O : Co K mg) : FnOk P w K mg base CX0 (k + 1) f fd ["row"] spRowT := by
  refine F.ok sc_row_text (by rintro vs H Q E ⟨v, r, rfl, _⟩; rfl) (fun cdv A outer s H vs Q E hr h => ?_)
  obtain ⟨v, r, rfl, hv, hg, q⟩ := h
  have ND := sc_row_text.nd
  obtain ⟨l1, l2, l3, l4, l5⟩ := row_lens hg
  obtain ⟨a, xs, rfl, ha, hx⟩ := tup_ats hv
  have ex : xs = [.str r.w, .int r.s, .str r.g, .int r.n, .int r.t] := by
    obtain ⟨_, _, rfl, h1, hx⟩ := AtAll.uncons hx
    obtain ⟨_, _, rfl, h2, hx⟩ := AtAll.uncons hx
    obtain ⟨_, _, rfl, h3, hx⟩ := AtAll.uncons hx
    obtain ⟨_, _, rfl, h4, hx⟩ := AtAll.uncons hx
    obtain ⟨_, _, rfl, h5, hx⟩ := AtAll.uncons hx
    unfold At at h1 h2 h3 h4 h5
    unfold AtAll at hx
    rw [h1, h2, h3, h4, h5, hx]
  subst ex
  refine ⟨_, (pss_cons (ps_asg (pv 0) (pg_tup rfl (pgs_cons (pg_name (i := 1) ND rfl (by first | exact Or.inl rfl | exact Or.inr rfl)) (pgs_cons (pg_name (i := 2) ND rfl (by first | exact Or.inl rfl | exact Or.inr rfl)) (pgs_cons (pg_name (i := 3) ND rfl (by first | exact Or.inl rfl | exact Or.inr rfl)) (pgs_cons (pg_name (i := 4) ND rfl (by first | exact Or.inl rfl | exact Or.inr rfl)) (pgs_cons (pg_name (i := 5) ND rfl (by first | exact Or.inl rfl | exact Or.inr rfl)) pgs_nil))))))) (pss_cons (ps_set (i := 6) ND rfl (by first | exact Or.inl rfl | exact Or.inr rfl) (pe_js (pj_cons (pe_fv (pv 1)) (pj_cons pe_str (pj_cons (pe_fv (pv 3)) (pj_cons pe_str (pj_cons (pe_fv (pv 4)) (pj_cons pe_str (pj_cons (pe_fv (pv 2)) pj_nil))))))))) (pss_cons (ps_if (pt_cmpR op_eq (pv 3) (pglobS O.EACH) (nomark _)) (pss_one (ps_ret (pv 6))) pss_nil) (pss_one (ps_ret (pe_js (pj_cons (pe_fv (pv 6)) (pj_cons pe_str (pj_cons (pe_fv (pe_ifExp (pt_cmpR op_gt (pv 5) pe_int (nomark _)) (pglobS O.MORE) (pglobS O.FEWER))) (pj_cons pe_str (pj_cons (pe_fv (pb (call_abs) B.abs bt_abs (pa_c (pv 5) pa_nil))) pj_nil))))))))))), ?_⟩
  walk_at "rd"
  refine ⟨a, _, rfl, SqT.of ha, rfl, ?_⟩
  walk_at "rd"
  have hn := hg.is.n
  have hs := hg.is.s
  refine ⟨_, rfl, by walk_at "len", _, rfl, by walk_at "len", _, rfl, by walk_at "len", _, rfl, by walk_at "len", _, rfl, by walk_at "len", _, rfl, by walk_at "len", _, fmt_dg hn.1 hn.2, by walk_at "len", _, rfl, by walk_at "len", _, rfl, by walk_at "len", _, fmt_dg (by omega) (by omega), by walk_at "len", _, rfl, by walk_at "len", by walk_at "len", ?_⟩
  have hT : Str.empty ++ r.w ++ Str.ofString " " ++ r.g ++ Str.ofString " " ++ tx (dg r.n) ++ Str.ofString " in " ++ tx (dg r.s) = tx (jn [32] [sg r.w, sg r.g, dg r.n, [105, 110], dg r.s]) := by
    rw [tx_nil, show Str.ofString " " = tx [32] from rfl, show Str.ofString " in " = tx [32, 105, 110, 32] from rfl]
    conv => lhs; rw [← tx_sg r.w, ← tx_sg r.g]
    simp only [tx_app]
    simp [jn]
  rw [hT]
  by_cases e : r.g = "each"
  · rw [if_pos (decide_eq_true e)]
    have : rowTx r = jn [32] [sg r.w, sg r.g, dg r.n, [105, 110], dg r.s] := by unfold rowTx rowWd; rw [if_pos e]; rfl
    rw [this] at q
    exact q
  · rw [if_neg (by rw [decide_eq_false e]; decide)]
    have ht := hg.t e
    have lT : (jn [32] [sg r.w, sg r.g, dg r.n, [105, 110], dg r.s]).length ≤ 40 := by
      simp only [jn, List.length_append, List.length_cons, List.length_nil, sg_len]
      omega
    have hQ : ∀ m, m = (if 0 < r.t then sg "more" else sg "fewer") → Q (.str (Str.empty ++ tx (jn [32] [sg r.w, sg r.g, dg r.n, [105, 110], dg r.s]) ++ Str.ofString " " ++ tx m ++ Str.ofString " " ++ tx (dg (absN r.t)))) H := fun m em => by
      have : rowTx r = jn [32] [sg r.w, sg r.g, dg r.n, [105, 110], dg r.s] ++ [32] ++ m ++ [32] ++ dg (absN r.t) := by
        unfold rowTx rowWd
        rw [if_neg e, jn_app _ _ _ (by simp) (by simp), ← em]
        simp [jn]
      rw [this] at q
      rw [tx_nil, show Str.ofString " " = tx [32] from rfl]
      simp only [tx_app, List.nil_append]
      exact q
    have fa : fmtV (V.int (if r.t < 0 then -r.t else r.t)) = some (tx (dg (absN r.t))) := fmt_dg (by split <;> omega) (by split <;> omega)
    have la := l5
    generalize jn [32] [sg r.w, sg r.g, dg r.n, [105, 110], dg r.s] = T at *
    refine ⟨_, rfl, by walk_at "len", _, rfl, by walk_at "len", _, rfl, by walk_at "len", ?_⟩
    refine and_if (fun c => ?_) fun c => ?_
    · refine ⟨_, rfl, by decide, _, rfl, ?_, _, rfl, ?_, _, fa, by walk_at "len", _, rfl, ?_, ?_, ?_⟩
      · rw [show Str.ofString "more" = tx (sg "more") from rfl]; rw [show sg "more" = [109, 111, 114, 101] from rfl]; walk_at "len"
      · rw [show Str.ofString "more" = tx (sg "more") from rfl]; rw [show sg "more" = [109, 111, 114, 101] from rfl]; walk_at "len"
      · rw [show Str.ofString "more" = tx (sg "more") from rfl]; rw [show sg "more" = [109, 111, 114, 101] from rfl]; walk_at "len"
      · rw [show Str.ofString "more" = tx (sg "more") from rfl]; rw [show sg "more" = [109, 111, 114, 101] from rfl]; walk_at "len"
      · exact hQ (sg "more") (by rw [if_pos (of_decide_eq_true c)])
    · refine ⟨_, rfl, by decide, _, rfl, ?_, _, rfl, ?_, _, fa, by walk_at "len", _, rfl, ?_, ?_, ?_⟩
      · rw [show Str.ofString "fewer" = tx (sg "fewer") from rfl]; rw [show sg "fewer" = [102, 101, 119, 101, 114] from rfl]; walk_at "len"
      · rw [show Str.ofString "fewer" = tx (sg "fewer") from rfl]; rw [show sg "fewer" = [102, 101, 119, 101, 114] from rfl]; walk_at "len"
      · rw [show Str.ofString "fewer" = tx (sg "fewer") from rfl]; rw [show sg "fewer" = [102, 101, 119, 101, 114] from rfl]; walk_at "len"
      · rw [show Str.ofString "fewer" = tx (sg "fewer") from rfl]; rw [show sg "fewer" = [102, 101, 119, 101, 114] from rfl]; walk_at "len"
      · exact hQ (sg "fewer") (by rw [if_neg (of_decide_eq_false c)])
theorem RowT.of {v : V} {r : RowT} {H : Hp} {Q : VK} {E : XK} (hv : At H (rowP r) v) (hg : RowG r) (q : Q (.str (tx (rowTx r))) H) : spRowT ([v] ++ []) H Q E := ⟨v, r, rfl, hv, hg, q⟩
structure RulG (rs : List RowT) : Prop where
  lo : 1 ≤ rs.length
  hi : rs.length ≤ 4
  g : ∀ r ∈ rs, RowG r
structure PsL (x : Pst) : Prop where
  p : 1 ≤ x.p ∧ x.p ≤ 1000000
  m : 0 ≤ x.m ∧ x.m ≤ 1000000000000
  lo : 0 ≤ x.lo ∧ x.lo ≤ x.hi
  hi : x.hi ≤ 12
  a : x.a ≤ 4
  e : 1 ≤ x.e ∧ x.e ≤ 6
  u : 0 ≤ x.u ∧ x.u ≤ 9
  d : 0 ≤ x.d ∧ x.d ≤ 9
  n : x.rss.length ≤ 3
  r : ∀ rs ∈ x.rss, RulG rs
def ruleTx (rs : List RowT) : List (List Nat) := sg "rule" :: rs.map rowTx
def rulesTx (rss : List (List RowT)) : List (List Nat) := (rss.map ruleTx).flatten
def stv (l : List (List Nat)) : List V := l.map fun z => V.str (tx z)
theorem stv_app (a b : List (List Nat)) : stv (a ++ b) = stv a ++ stv b := List.map_append
theorem stv_str (l : List (List Nat)) : stv l = (l.map tx).map V.str := by unfold stv; rw [List.map_map]; rfl
theorem rules_len {rss : List (List RowT)} (h1 : rss.length ≤ 3) (h2 : ∀ rs ∈ rss, RulG rs) : (rulesTx rss).length ≤ 5 * rss.length := by
  clear h1
  induction rss with
  | nil => simp [rulesTx]
  | cons rs r ih =>
    have h := (h2 rs (List.mem_cons_self ..)).hi
    have ih := ih fun x hx => h2 x (List.mem_cons_of_mem _ hx)
    unfold rulesTx at ih ⊢
    rw [List.map_cons, List.flatten_cons, List.length_append]
    unfold ruleTx at ih ⊢
    simp only [List.length_cons, List.length_map] at ih ⊢
    omega
theorem pst_full {H : Hp} {x : Pst} {v : V} (h : At H (pstD x) v) : ∃ a b c d ys, v = .ref a ∧ H a = some (.tup [.int x.p, .int x.m, .ref b, .int x.a, .int x.e, .ref c, .ref d]) ∧ H b = some (.tup [.int x.lo, .int x.hi]) ∧ H c = some (.tup [.int x.u, .int x.d]) ∧ H d = some (.tup ys) ∧ AtAll H (x.rss.map ruleP) ys := by
  obtain ⟨a, xs, rfl, h1, h2⟩ := tup_ats h
  obtain ⟨x0, _, rfl, b0, h2⟩ := AtAll.uncons h2
  obtain ⟨x1, _, rfl, b1, h2⟩ := AtAll.uncons h2
  obtain ⟨x2, _, rfl, b2, h2⟩ := AtAll.uncons h2
  obtain ⟨x3, _, rfl, b3, h2⟩ := AtAll.uncons h2
  obtain ⟨x4, _, rfl, b4, h2⟩ := AtAll.uncons h2
  obtain ⟨x5, _, rfl, b5, h2⟩ := AtAll.uncons h2
  obtain ⟨x6, _, rfl, b6, h2⟩ := AtAll.uncons h2
  unfold AtAll at h2
  subst h2
  obtain ⟨b, bs, rfl, hb, hb2⟩ := tup_ats b2
  obtain ⟨c, cs, rfl, hc, hc2⟩ := tup_ats b5
  obtain ⟨d, ds, rfl, hd, hd2⟩ := tup_ats b6
  obtain ⟨_, _, rfl, g1, hb2⟩ := AtAll.uncons hb2
  obtain ⟨_, _, rfl, g2, hb2⟩ := AtAll.uncons hb2
  obtain ⟨_, _, rfl, g3, hc2⟩ := AtAll.uncons hc2
  obtain ⟨_, _, rfl, g4, hc2⟩ := AtAll.uncons hc2
  unfold AtAll at hb2 hc2
  unfold At at b0 b1 b3 b4 g1 g2 g3 g4
  subst hb2 hc2 b0 b1 b3 b4 g1 g2 g3 g4
  exact ⟨a, b, c, d, ds, rfl, h1, hb, hc, hd, hd2⟩
def spPr : Sp := fun vs H Q _ => ∃ (v : V) (x : Pst), vs = [v] ∧ At H (pstD x) v ∧ PsL x ∧ ∀ p H', H p = none → Same H H' → H' p = some (.lst (stv (rulesTx x.rss))) → Q (.ref p) H'
theorem sc_post_rows : FnScope ["post", "rows", "rule"] ["post"] (defScope s_post_rows) := ⟨rfl, rfl, rfl, by decide +kernel, rfl, by decide +kernel, by decide +kernel⟩
theorem ok_post_rows (F : Fun K "post_rows" "post_rows" s_post_rows f fd) (B : Bi mg) (O : Co K mg) (c_row_text : Ct P w K mg base k "row_text" ["row"] spRowT) : FnOk P w K mg base CX0 (k + 1) f fd ["post"] spPr := by
  refine F.ok sc_post_rows (by rintro vs H Q E ⟨v, x, rfl, _⟩; rfl) (fun cdv A outer s H vs Q E hr h => ?_)
  obtain ⟨v, x, rfl, hv, hx, q⟩ := h
  have ND := sc_post_rows.nd
  refine ⟨_, (pss_cons (ps_set (i := 1) ND rfl (by first | exact Or.inl rfl | exact Or.inr rfl) (pe_lstW pa_nil)) (pss_cons (ps_for PassesOwn.never rfl (pi_tup (pe_ix ix_tup (pv 0) pe_int (fun _ _ => rfl))) (pg_name (i := 2) ND rfl (by first | exact Or.inl rfl | exact Or.inr rfl)) (pss_cons (ps_expr (pe_bm PySem.F.plainAttrs_list PySem.F.slot_list_append PySem.F.type_list_append mt_append (pv 1) (pa_c (pglobS O.RULE) pa_nil))) (pss_one (ps_expr (pe_bm PySem.F.plainAttrs_list PySem.F.slot_list_extend PySem.F.type_list_extend mt_extend (pv 1) (pa_c (pe_comp (N' := ["row"]) (js := []) rfl (pi_tup (pv 2)) CSc.mk0 rfl (by decide) rfl (fun fp s' H' => (pf c_row_text hr (pa_c (pv 0) pa_nil)))) pa_nil)))))) (pss_one (ps_ret (pv 1))))), ?_⟩
  walk_at "rd"
  refine ⟨by decide, fun p H1 f1 s1 e1 => ?_⟩
  rw [tFor_tup]
  walk_at "rd"
  obtain ⟨a, b, c, d, ys, rfl, ha, hb, hc, hd, hys⟩ := pst_full hv
  refine ⟨a, _, _, .ref d, rfl, rfl, SqT.of (s1 _ _ ha), atI_nat (j := 6) rfl, ?_⟩
  have hly : ys.length = x.rss.length := by rw [hys.length, List.length_map]
  have hrl := rules_len hx.n hx.r
  have hn3 := hx.n
  refine TK.of (s1 _ _ hd) (fun i σ H' => ∃ o, σ = [some (.ref a), some (.ref p), o] ∧ Same H H' ∧ H' p = some (.lst (stv (rulesTx (x.rss.take i))))) ⟨none, rfl, s1, by simpa [rulesTx, stv] using e1⟩ (fun i σ H' _ h => by obtain ⟨o, _, s, _⟩ := h; exact s _ _ hd) ?_ ?_
  · rintro i y σ H2 hy ⟨o, rfl, s2, e2⟩
    obtain ⟨e, ee, he⟩ := hys.get hy
    rw [List.getElem?_map] at ee
    cases hg : x.rss[i]? with
    | none => rw [hg] at ee; cases ee
    | some rs =>
    rw [hg] at ee
    cases ee
    have hrs := hx.r rs (List.mem_of_getElem? hg)
    have hi : i < x.rss.length := (List.getElem?_eq_some_iff.mp hg).1
    have etk : rulesTx (x.rss.take (i + 1)) = rulesTx (x.rss.take i) ++ ruleTx rs := by
      have e3 : x.rss[i] = rs := (List.getElem?_eq_some_iff.mp hg).2
      unfold rulesTx
      rw [List.take_succ_eq_append_getElem hi, List.map_append, List.flatten_append, e3]
      simp
    have hlt : (rulesTx (x.rss.take i)).length ≤ 15 := by
      have := rules_len (rss := x.rss.take i) (by rw [List.length_take]; omega) (fun rs h => hx.r rs (List.mem_of_mem_take h))
      rw [List.length_take] at this
      omega
    obtain ⟨ra, rxs, rfl, hra, hrx⟩ := tup_ats (he.mono s2)
    have hrl2 : rxs.length = rs.length := by rw [hrx.length, List.length_map]
    have hr4 := hrs.hi
    walk_at "rd"
    refine ⟨.inl ⟨rfl, _, SqL.of e2⟩, p, _, _, rfl, rfl, e2, by unfold stv; rw [List.length_map, sizeLine_eq]; omega, .inl ⟨rfl, _, SqL.of upd_same⟩, ?_⟩
    have s3 : Same H (upd H2 p (.lst (stv (rulesTx (x.rss.take i)) ++ [V.str "rule"]))) := s2.updN f1
    have npa : ra ≠ p := fun z => by rw [z, e2] at hra; cases hra
    have hra3 : upd H2 p (.lst (stv (rulesTx (x.rss.take i)) ++ [V.str "rule"])) ra = some (.tup rxs) := by rw [upd_ne npa]; exact hra
    have e3 : upd H2 p (.lst (stv (rulesTx (x.rss.take i)) ++ [V.str "rule"])) p = some (.lst (stv (rulesTx (x.rss.take i)) ++ [V.str "rule"])) := upd_same
    have hrx3 : AtAll (upd H2 p (.lst (stv (rulesTx (x.rss.take i)) ++ [V.str "rule"]))) (rs.map rowP) rxs := by
      obtain ⟨a3, xs3, e3', h3, h4⟩ := tup_ats (he.mono s3)
      cases e3'
      rw [hra3] at h3
      cases h3
      exact h4
    show tComp _ _ _ _ (upd H2 p (.lst (stv (rulesTx (x.rss.take i)) ++ [V.str "rule"]))) _
    generalize upd H2 p (.lst (stv (rulesTx (x.rss.take i)) ++ [V.str "rule"])) = H3 at *
    refine comp_TS (zs := rs.map fun r => tx (rowTx r)) (fun R hR => ?_) hra3 (by rw [sizeLine_eq]; omega) (by rw [List.length_map, hrl2]) (fun j y z H' hy hz s' R hR => ?_) fun acc H4 s4 fa e4 => ?_
    · walk_at "rd"; exact hR
    · obtain ⟨e', ee', he'⟩ := hrx3.get hy
      rw [List.getElem?_map] at ee' hz
      cases hg' : rs[j]? with
      | none => rw [hg'] at ee'; cases ee'
      | some r =>
      rw [hg'] at ee' hz
      cases ee'
      cases hz
      walk_at "rd"
      exact RowT.of (he'.mono s') (hrs.g r (List.mem_of_getElem? hg')) (hR _ (Same.refl _))
    · refine ⟨p, acc, _, _, rfl, rfl, s4 _ _ e3, e4, ?_, ?_⟩
      · unfold stv; simp only [List.length_append, List.length_map, List.length_cons, List.length_nil, sizeLine_eq]; omega
      · refine ⟨_, rfl, (s3.trans s4).updN f1, ?_⟩
        rw [upd_same, etk, stv_app]
        congr 2
        unfold ruleTx stv
        rw [List.append_assoc]
        congr 1
        simp [tx_sg]
  · rintro σ H2 ⟨o, rfl, s2, e2⟩
    walk_at "rd"
    refine q p H2 f1 s2 ?_
    rw [e2, hly, List.take_length]
theorem Pr.of {v : V} {x : Pst} {H : Hp} {Q : VK} {E : XK} (hv : At H (pstD x) v) (hx : PsL x) (q : ∀ p H', H p = none → Same H H' → H' p = some (.lst (stv (rulesTx x.rss))) → Q (.ref p) H') : spPr ([v] ++ []) H Q E := ⟨v, x, rfl, hv, hx, q⟩
def headWd (nm : Str) (x : Pst) : List (List Nat) := [sg "post", sg nm, sg "pace", dg x.p, sg "room", dg x.m, sg "hands", dg x.lo, dg x.hi, sg "late", dg x.a, sg "every", dg x.e, sg "rests", dg x.u, dg x.d]
def headTx (nm : Str) (x : Pst) : List Nat := jn [32] (headWd nm x)
local macro_rules | `(tactic| walk_at "lenh") => `(tactic| (simp only [Str.length_append, tx_len, List.length_append, List.length_cons, List.length_nil, sizeLine_eq, show Str.empty.length = 0 from rfl, show (Str.ofString " ").length = 1 from rfl, show (Str.ofString "pace ").length = 5 from rfl, show (Str.ofString " room ").length = 6 from rfl, show (Str.ofString " hands ").length = 7 from rfl, show (Str.ofString "post ").length = 5 from rfl, show (Str.ofString " late ").length = 6 from rfl, show (Str.ofString " every ").length = 7 from rfl, show (Str.ofString " rests ").length = 7 from rfl]; omega))
theorem post_lens {x : Pst} (h : PsL x) : (dg x.p).length ≤ 7 ∧ (dg x.m).length ≤ 13 ∧ (dg x.lo).length ≤ 2 ∧ (dg x.hi).length ≤ 2 ∧ (dg x.a).length ≤ 1 ∧ (dg x.e).length ≤ 1 ∧ (dg x.u).length ≤ 1 ∧ (dg x.d).length ≤ 1 := by
  have h1 := h.p
  have h2 := h.m
  have h3 := h.lo
  have h4 := h.hi
  have h5 := h.a
  have h6 := h.e
  have h7 := h.u
  have h8 := h.d
  exact ⟨dg_len (by decide) (by omega), dg_len (by decide) (by omega), dg_len (by decide) (by omega), dg_len (by decide) (by omega), dg_len (by decide) (by omega), dg_len (by decide) (by omega), dg_len (by decide) (by omega), dg_len (by decide) (by omega)⟩
def spHt : Sp := fun vs H Q _ => ∃ (v : V) (nm : Str) (x : Pst), vs = [.str nm, v] ∧ At H (pstD x) v ∧ PsL x ∧ nm.length ≤ 8 ∧ Q (.str (tx (headTx nm x))) H
theorem sc_head_text : FnScope ["name", "post", "pace", "room", "least", "most", "late", "every", "up", "down", "rules", "work"] ["name", "post"] (defScope s_head_text) := ⟨rfl, rfl, rfl, by decide +kernel, rfl, by decide +kernel, by decide +kernel⟩
theorem ok_head_text (F : Fun K "head_text" "head_text" s_head_text f fd) (B : Bi mg) (O : Co K mg) : FnOk P w K mg base CX0 (k + 1) f fd ["name", "post"] spHt := by
  refine F.ok sc_head_text (by rintro vs H Q E ⟨v, nm, x, rfl, _⟩; rfl) (fun cdv A outer s H vs Q E hr h => ?_)
  obtain ⟨v, nm, x, rfl, hv, hx, hnm, q⟩ := h
  have ND := sc_head_text.nd
  obtain ⟨a, b, c, d, ys, rfl, ha, hb, hc, hd, hys⟩ := pst_full hv
  obtain ⟨l1, l2, l3, l4, l5, l6, l7, l8⟩ := post_lens hx
  refine ⟨_, (pss_cons (ps_asg (pv 1) (pg_tup rfl (pgs_cons (pg_name (i := 2) ND rfl (by first | exact Or.inl rfl | exact Or.inr rfl)) (pgs_cons (pg_name (i := 3) ND rfl (by first | exact Or.inl rfl | exact Or.inr rfl)) (pgs_cons (pg_tup rfl (pgs_cons (pg_name (i := 4) ND rfl (by first | exact Or.inl rfl | exact Or.inr rfl)) (pgs_cons (pg_name (i := 5) ND rfl (by first | exact Or.inl rfl | exact Or.inr rfl)) pgs_nil))) (pgs_cons (pg_name (i := 6) ND rfl (by first | exact Or.inl rfl | exact Or.inr rfl)) (pgs_cons (pg_name (i := 7) ND rfl (by first | exact Or.inl rfl | exact Or.inr rfl)) (pgs_cons (pg_tup rfl (pgs_cons (pg_name (i := 8) ND rfl (by first | exact Or.inl rfl | exact Or.inr rfl)) (pgs_cons (pg_name (i := 9) ND rfl (by first | exact Or.inl rfl | exact Or.inr rfl)) pgs_nil))) (pgs_cons (pg_name (i := 10) ND rfl (by first | exact Or.inl rfl | exact Or.inr rfl)) pgs_nil))))))))) (pss_cons (ps_set (i := 11) ND rfl (by first | exact Or.inl rfl | exact Or.inr rfl) (pe_js (pj_cons pe_str (pj_cons (pe_fv (pv 2)) (pj_cons pe_str (pj_cons (pe_fv (pv 3)) (pj_cons pe_str (pj_cons (pe_fv (pv 4)) (pj_cons pe_str (pj_cons (pe_fv (pv 5)) pj_nil)))))))))) (pss_one (ps_ret (pe_js (pj_cons pe_str (pj_cons (pe_fv (pv 0)) (pj_cons pe_str (pj_cons (pe_fv (pv 11)) (pj_cons pe_str (pj_cons (pe_fv (pv 6)) (pj_cons pe_str (pj_cons (pe_fv (pv 7)) (pj_cons pe_str (pj_cons (pe_fv (pv 8)) (pj_cons pe_str (pj_cons (pe_fv (pv 9)) pj_nil))))))))))))))))), ?_⟩
  walk_at "rd"
  refine ⟨a, _, rfl, SqT.of ha, rfl, ?_⟩
  walk_at "rd"
  refine ⟨b, _, rfl, SqT.of hb, rfl, ?_⟩
  walk_at "rd"
  refine ⟨c, _, rfl, SqT.of hc, rfl, ?_⟩
  walk_at "rd"
  have p1 := hx.p
  have p2 := hx.m
  have p3 := hx.lo
  have p4 := hx.hi
  have p5 := hx.a
  have p6 := hx.e
  have p7 := hx.u
  have p8 := hx.d
  have f1 := fmt_dg (n := x.p) (by omega) (by omega)
  have f2 := fmt_dg (n := x.m) (by omega) (by omega)
  have f3 := fmt_dg (n := x.lo) (by omega) (by omega)
  have f4 := fmt_dg (n := x.hi) (by omega) (by omega)
  have f5 := fmt_dg (n := x.a) (by omega) (by omega)
  have f6 := fmt_dg (n := x.e) (by omega) (by omega)
  have f7 := fmt_dg (n := x.u) (by omega) (by omega)
  have f8 := fmt_dg (n := x.d) (by omega) (by omega)
  refine ⟨_, rfl, by walk_at "lenh", _, f1, by walk_at "lenh", _, rfl, by walk_at "lenh", _, rfl, by walk_at "lenh", _, f2, by walk_at "lenh", _, rfl, by walk_at "lenh", _, rfl, by walk_at "lenh", _, f3, by walk_at "lenh", _, rfl, by walk_at "lenh", _, rfl, by walk_at "lenh", _, f4, by walk_at "lenh", _, rfl, by walk_at "lenh", by walk_at "lenh", ?_⟩
  have hW : Str.empty ++ Str.ofString "pace " ++ tx (dg x.p) ++ Str.ofString " room " ++ tx (dg x.m) ++ Str.ofString " hands " ++ tx (dg x.lo) ++ Str.ofString " " ++ tx (dg x.hi) = tx (jn [32] [sg "pace", dg x.p, sg "room", dg x.m, sg "hands", dg x.lo, dg x.hi]) := by
    rw [tx_nil, show Str.ofString "pace " = tx (sg "pace" ++ [32]) from rfl, show Str.ofString " room " = tx (32 :: sg "room" ++ [32]) from rfl, show Str.ofString " hands " = tx (32 :: sg "hands" ++ [32]) from rfl, show Str.ofString " " = tx [32] from rfl]
    simp only [tx_app]
    simp [jn]
  have lW : (jn [32] [sg "pace", dg x.p, sg "room", dg x.m, sg "hands", dg x.lo, dg x.hi]).length ≤ 60 := by
    simp only [jn, List.length_append, List.length_cons, List.length_nil, show (sg "pace").length = 4 from rfl, show (sg "room").length = 4 from rfl, show (sg "hands").length = 5 from rfl]
    omega
  rw [hW]
  have hQ : Str.empty ++ Str.ofString "post " ++ nm ++ Str.ofString " " ++ tx (jn [32] [sg "pace", dg x.p, sg "room", dg x.m, sg "hands", dg x.lo, dg x.hi]) ++ Str.ofString " late " ++ tx (dg x.a) ++ Str.ofString " every " ++ tx (dg x.e) ++ Str.ofString " rests " ++ tx (dg x.u) ++ Str.ofString " " ++ tx (dg x.d) = tx (headTx nm x) := by
    rw [tx_nil, show Str.ofString "post " = tx (sg "post" ++ [32]) from rfl, show Str.ofString " late " = tx (32 :: sg "late" ++ [32]) from rfl, show Str.ofString " every " = tx (32 :: sg "every" ++ [32]) from rfl, show Str.ofString " rests " = tx (32 :: sg "rests" ++ [32]) from rfl, show Str.ofString " " = tx [32] from rfl]
    conv => lhs; rw [← tx_sg nm]
    simp only [tx_app]
    unfold headTx headWd
    simp [jn]
  rw [← hQ] at q
  generalize jn [32] [sg "pace", dg x.p, sg "room", dg x.m, sg "hands", dg x.lo, dg x.hi] = W at *
  exact ⟨_, rfl, by walk_at "lenh", _, rfl, by walk_at "lenh", _, rfl, by walk_at "lenh", _, rfl, by walk_at "lenh", _, rfl, by walk_at "lenh", _, rfl, by walk_at "lenh", _, rfl, by walk_at "lenh", _, f5, by walk_at "lenh", _, rfl, by walk_at "lenh", _, rfl, by walk_at "lenh", _, f6, by walk_at "lenh", _, rfl, by walk_at "lenh", _, rfl, by walk_at "lenh", _, f7, by walk_at "lenh", _, rfl, by walk_at "lenh", _, rfl, by walk_at "lenh", _, f8, by walk_at "lenh", _, rfl, by walk_at "lenh", by walk_at "lenh", q⟩
theorem Ht.of {v : V} {nm : Str} {x : Pst} {H : Hp} {Q : VK} {E : XK} (hv : At H (pstD x) v) (hx : PsL x) (hn : nm.length ≤ 8) (q : Q (.str (tx (headTx nm x))) H) : spHt ([.str nm, v] ++ []) H Q E := ⟨v, nm, x, rfl, hv, hx, hn, q⟩
end
end K70
namespace K70
open PySem L2
local macro_rules | `(tactic| walk_at "rd") => `(tactic| simp only [L2.start, List.map_cons, List.map_nil, List.length_cons, List.length_nil, Nat.reduceAdd, Nat.reduceSub, List.replicate, List.cons_append, List.nil_append, List.append_nil,
  tSeq, tIfS, tRet, tRetN, tNext, tAsg, gName, tDrop, rd_var0, rd_varS, rd_gcons, rd_gnil, if_true, if_false, Bool.false_eq_true, Bool.not_true, Bool.not_false, rd_set0, rd_setS, rd_eqI, rd_neI, rd_eqS, rd_neS, rd_argI, rd_argB, rd_argII, rd_test, rd_int, rd_ii, tC, tOp, tUn, rI0, rI, rU, tTest, tAnd, tOr, tNot, tAndV, tOrV, tNotV, tIf, tCall, tCB, tCons, tNil, tB, tChain, tSl, tNoPart, tPart, gSub, tPar, tLst, tTup, tLstW, tTupW, tBM, tAug, tPar3, tAugS, ipI, tMaxD, tGT2, tFv, tJs, tJ1, tJ0, tTru])
section
variable {P : Program} {w : World} {K : PySem.W.Frag} {mg : Str → Option Value} {base : Heap} {f : Addr} {fd : FuncData} {k : Nat}
structure Nmd where
  nm : Str
  x : Pst
  on : Option Str
def onP : Option Str → PyData
  | none => .none
  | some z => .str z
def onV : Option Str → V
  | none => .non
  | some z => .str z
def nmdP (n : Nmd) : PyData := .tuple [.str n.nm, pstD n.x, onP n.on]
def StrG (z : Str) : Prop := z.length ≤ 8 ∧ ∀ c ∈ sg z, c < 128
structure NmdG (n : Nmd) : Prop where
  nm : StrG n.nm
  x : PsL n.x
  on : ∀ z, n.on = some z → StrG z
def onTx : Option Str → List (List Nat)
  | none => []
  | some z => [sg "on" ++ 32 :: sg z]
def nmdTx (n : Nmd) : List (List Nat) := headTx n.nm n.x :: (onTx n.on ++ rulesTx n.x.rss)
def yardRows (t : Int) (yd : List Nmd) : List (List Nat) := (sg "yard" ++ 32 :: dg t) :: (yd.map nmdTx).flatten
def yardTx (t : Int) (yd : List Nmd) : List Nat := jn [10] (yardRows t yd)
theorem jn_len (sep : List Nat) {B : Nat} : ∀ ls : List (List Nat), (∀ x ∈ ls, x.length ≤ B) → (jn sep ls).length ≤ ls.length * (B + sep.length)
  | [], _ => by simp [jn]
  | [x], h => by
    have := h x (List.mem_cons_self ..)
    show x.length ≤ _
    simp only [List.length_cons, List.length_nil]
    omega
  | x :: y :: r, h => by
    have h1 := h x (List.mem_cons_self ..)
    have h2 := jn_len sep (y :: r) fun z hz => h z (List.mem_cons_of_mem _ hz)
    show (x ++ sep ++ jn sep (y :: r)).length ≤ _
    rw [List.length_append, List.length_append]
    simp only [List.length_cons] at h2 ⊢
    rw [Nat.add_mul (r.length + 1) 1]
    omega
theorem rowTx_len {r : RowT} (h : RowG r) : (rowTx r).length ≤ 300 := by
  obtain ⟨l1, l2, l3, l4, l5⟩ := row_lens h
  have := jn_len [32] (B := 13) (rowWd r) (fun z hz => by
    unfold rowWd at hz
    simp only [List.mem_append, List.mem_cons, List.not_mem_nil, or_false] at hz
    rcases hz with (rfl | rfl | rfl | rfl | rfl) | hz
    · rw [sg_len]; omega
    · rw [sg_len]; omega
    · exact l3
    · decide
    · omega
    · split at hz
      · cases hz
      · simp only [List.mem_cons, List.not_mem_nil, or_false] at hz
        rcases hz with rfl | rfl
        · split <;> decide
        · omega)
  have h7 : (rowWd r).length ≤ 7 := by unfold rowWd; split <;> simp
  have h8 : (rowWd r).length * (13 + ([32] : List Nat).length) ≤ 7 * 14 := Nat.mul_le_mul h7 (by decide)
  unfold rowTx
  omega
theorem nmd_len {n : Nmd} (h : NmdG n) : ∀ z ∈ nmdTx n, z.length ≤ 300 := by
  intro z hz
  obtain ⟨l1, l2, l3, l4, l5, l6, l7, l8⟩ := post_lens h.x
  unfold nmdTx at hz
  rcases List.mem_cons.mp hz with rfl | hz
  · have hn := h.nm.1
    have := jn_len [32] (B := 13) (headWd n.nm n.x) (fun z hz => by
      unfold headWd at hz
      simp only [List.mem_cons, List.not_mem_nil, or_false] at hz
      rcases hz with rfl | rfl | rfl | rfl | rfl | rfl | rfl | rfl | rfl | rfl | rfl | rfl | rfl | rfl | rfl | rfl
      any_goals omega
      any_goals decide
      rw [sg_len]; omega)
    have h16 : (headWd n.nm n.x).length * (13 + ([32] : List Nat).length) = 16 * 14 := rfl
    unfold headTx
    omega
  · rcases List.mem_append.mp hz with hz | hz
    · cases ho : n.on with
      | none => rw [ho] at hz; cases hz
      | some y =>
        rw [ho] at hz
        have := (h.on y ho).1
        rw [List.mem_singleton.mp hz, List.length_append, List.length_cons, sg_len y]
        show 2 + _ ≤ 300
        omega
    · unfold rulesTx at hz
      obtain ⟨l, hl, hz⟩ := List.mem_flatten.mp hz
      obtain ⟨rs, hrs, rfl⟩ := List.mem_map.mp hl
      unfold ruleTx at hz
      rcases List.mem_cons.mp hz with rfl | hz
      · decide
      · obtain ⟨r, hr, rfl⟩ := List.mem_map.mp hz
        exact rowTx_len ((h.x.r rs hrs).g r hr)
theorem nmd_many {n : Nmd} (h : NmdG n) : (nmdTx n).length ≤ 20 := by
  have h1 := rules_len h.x.n h.x.r
  have h2 := h.x.n
  have h3 : (onTx n.on).length ≤ 1 := by
    cases n.on with
    | none => show 0 ≤ 1; decide
    | some z => show 1 ≤ 1; decide
  unfold nmdTx
  rw [List.length_cons, List.length_append]
  omega
theorem yard_many {yd : List Nmd} (h : ∀ n ∈ yd, NmdG n) : (yd.map nmdTx).flatten.length ≤ 20 * yd.length := by
  induction yd with
  | nil => simp
  | cons n r ih =>
    have h1 := nmd_many (h n (List.mem_cons_self ..))
    have h2 := ih fun x hx => h x (List.mem_cons_of_mem _ hx)
    rw [List.map_cons, List.flatten_cons, List.length_append, List.length_cons]
    omega
theorem yard_len {t : Int} {yd : List Nmd} (ht : 0 ≤ t ∧ t ≤ 60) (h : ∀ n ∈ yd, NmdG n) : ∀ z ∈ yardRows t yd, z.length ≤ 300 := by
  intro z hz
  rcases List.mem_cons.mp hz with rfl | hz
  · have := dg_len (n := t) (k := 2) (by decide) (by omega)
    rw [List.length_append, List.length_cons]
    show 4 + _ ≤ 300
    omega
  · obtain ⟨l, hl, hz⟩ := List.mem_flatten.mp hz
    obtain ⟨n, hn, rfl⟩ := List.mem_map.mp hl
    exact nmd_len (h n hn) z hz
theorem nmd_full {H : Hp} {n : Nmd} {v : V} (h : At H (nmdP n) v) : ∃ a p, v = .ref a ∧ H a = some (.tup [.str n.nm, p, onV n.on]) ∧ At H (pstD n.x) p := by
  obtain ⟨a, xs, rfl, h1, h2⟩ := tup_ats h
  obtain ⟨x0, _, rfl, b0, h2⟩ := AtAll.uncons h2
  obtain ⟨x1, _, rfl, b1, h2⟩ := AtAll.uncons h2
  obtain ⟨x2, _, rfl, b2, h2⟩ := AtAll.uncons h2
  unfold AtAll at h2
  subst h2
  unfold At at b0
  subst b0
  refine ⟨a, x1, rfl, ?_, b1⟩
  have e2 : x2 = onV n.on := by
    cases ho : n.on with
    | none => rw [ho] at b2; unfold onP At at b2; exact b2
    | some z => rw [ho] at b2; unfold onP At at b2; exact b2
  rw [h1, e2]
def spYt : Sp := fun vs H Q _ => ∃ (t : Int) (q : Addr) (xs : List V) (yd : List Nmd), vs = [.int t, .ref q] ∧ (0 ≤ t ∧ t ≤ 60) ∧ H q = some (.lst xs) ∧ AtAll H (yd.map nmdP) xs ∧ (∀ n ∈ yd, NmdG n) ∧ yd.length ≤ 5 ∧ ∀ H', Same H H' → Q (.str (tx (yardTx t yd))) H'
theorem sc_yard_text : FnScope ["total", "posts", "rows", "name", "post", "onward"] ["total", "posts"] (defScope s_yard_text) := ⟨rfl, rfl, rfl, by decide +kernel, rfl, by decide +kernel, by decide +kernel⟩
theorem ok_yard_text (F : Fun K "yard_text" "yard_text" s_yard_text f fd) (B : Bi mg) (O : Co K mg) (c_head_text : Ct P w K mg base k "head_text" ["name", "post"] spHt) (c_post_rows : Ct P w K mg base k "post_rows" ["post"] spPr) : FnOk P w K mg base CX0 (k + 1) f fd ["total", "posts"] spYt := by
  refine F.ok sc_yard_text (by rintro vs H Q E ⟨t, q, xs, yd, rfl, _⟩; rfl) (fun cdv A outer s H vs Q E hr h => ?_)
  obtain ⟨t, qa, xs, yd, rfl, ht, hq, hxs, hG, h5, q⟩ := h
  have ND := sc_yard_text.nd
  have dt := dg_len (n := t) (k := 2) (by decide) (by omega)
  refine ⟨_, (pss_cons (ps_set (i := 2) ND rfl (by first | exact Or.inl rfl | exact Or.inr rfl) (pe_lstW (pa_c (pe_js (pj_cons pe_str (pj_cons (pe_fv (pv 0)) pj_nil))) pa_nil))) (pss_cons (ps_for PassesOwn.never rfl (pi_list (pv 1)) (pg_tup rfl (pgs_cons (pg_name (i := 3) ND rfl (by first | exact Or.inl rfl | exact Or.inr rfl)) (pgs_cons (pg_name (i := 4) ND rfl (by first | exact Or.inl rfl | exact Or.inr rfl)) (pgs_cons (pg_name (i := 5) ND rfl (by first | exact Or.inl rfl | exact Or.inr rfl)) pgs_nil)))) (pss_cons (ps_expr (pe_bm PySem.F.plainAttrs_list PySem.F.slot_list_append PySem.F.type_list_append mt_append (pv 2) (pa_c (pf c_head_text hr (pa_c (pv 3) (pa_c (pv 4) pa_nil))) pa_nil))) (pss_cons (ps_if (pt_cmpR op_notN (pv 5) pe_non (nomark _)) (pss_one (ps_expr (pe_bm PySem.F.plainAttrs_list PySem.F.slot_list_append PySem.F.type_list_append mt_append (pv 2) (pa_c (pe_js (pj_cons pe_str (pj_cons (pe_fv (pv 5)) pj_nil))) pa_nil)))) pss_nil) (pss_one (ps_expr (pe_bm PySem.F.plainAttrs_list PySem.F.slot_list_extend PySem.F.type_list_extend mt_extend (pv 2) (pa_c (pf c_post_rows hr (pa_c (pv 4) pa_nil)) pa_nil))))))) (pss_one (ps_ret (pe_bm PySem.F.plainAttrs_str PySem.F.slot_str_join PySem.F.type_str_join mt_join pe_str (pa_c (pv 2) pa_nil)))))), ?_⟩
  simp only [seqOi]
  walk_at "rd"
  refine ⟨_, rfl, by decide, _, fmt_dg ht.1 (by omega), by rw [tx_len, sizeLine_eq]; omega, _, rfl, ?_, ?_, by decide, fun p H1 f1 s1 e1 => ?_⟩
  · rw [tx_nil, show Str.ofString "yard " = tx (sg "yard" ++ [32]) from rfl, tx_app, tx_app, tx_len, sizeLine_eq]
    simp only [List.length_append, List.length_cons, List.length_nil, show (sg "yard").length = 4 from rfl]
    omega
  · rw [tx_nil, show Str.ofString "yard " = tx (sg "yard" ++ [32]) from rfl, tx_app, tx_app, tx_len, sizeLine_eq]
    simp only [List.length_append, List.length_cons, List.length_nil, show (sg "yard").length = 4 from rfl]
    omega
  have e0 : Str.empty ++ Str.ofString "yard " ++ tx (dg t) = tx (sg "yard" ++ 32 :: dg t) := by
    rw [tx_nil, show Str.ofString "yard " = tx (sg "yard" ++ [32]) from rfl, tx_app, tx_app]; simp
  rw [e0] at e1
  rw [tFor_lst]
  walk_at "rd"
  have hlx : xs.length = yd.length := by rw [hxs.length, List.length_map]
  have npq : p ≠ qa := fun z => by rw [z, hq] at f1; cases f1
  refine LK.of (xs := xs) (s1 _ _ hq) (fun i σ H' => ∃ o3 o4 o5, σ = [some (.int t), some (.ref qa), some (.ref p), o3, o4, o5] ∧ Same H H' ∧ H' p = some (.lst (stv (yardRows t (yd.take i))))) ⟨none, none, none, rfl, s1, by rw [e1]; rfl⟩ (fun i σ H' _ h => by obtain ⟨_, _, _, _, s, _⟩ := h; exact s _ _ hq) ?_ ?_
  · rintro i y σ H2 hy ⟨o3, o4, o5, rfl, s2, e2⟩
    obtain ⟨e, ee, he⟩ := hxs.get hy
    rw [List.getElem?_map] at ee
    cases hg : yd[i]? with
    | none => rw [hg] at ee; cases ee
    | some n =>
    rw [hg] at ee
    cases ee
    have hn := hG n (List.mem_of_getElem? hg)
    have hi : i < yd.length := (List.getElem?_eq_some_iff.mp hg).1
    have etk : yardRows t (yd.take (i + 1)) = yardRows t (yd.take i) ++ nmdTx n := by
      have e3 : yd[i] = n := (List.getElem?_eq_some_iff.mp hg).2
      unfold yardRows
      rw [List.take_succ_eq_append_getElem hi, List.map_append, List.flatten_append, e3]
      simp
    have hlt : (yardRows t (yd.take i)).length ≤ 101 := by
      have := yard_many (yd := yd.take i) (fun n h => hG n (List.mem_of_mem_take h))
      rw [List.length_take] at this
      unfold yardRows
      rw [List.length_cons]
      omega
    have h20 := nmd_many hn
    have hrl := rules_len hn.x.n hn.x.r
    have hx3 := hn.x.n
    obtain ⟨na, pv, rfl, hna, hpv⟩ := nmd_full he
    refine ⟨na, _, rfl, SqT.of (s2 _ _ hna), rfl, ?_⟩
    walk_at "rd"
    refine ⟨.inl ⟨rfl, _, SqL.of e2⟩, ?_⟩
    refine Ht.of (hpv.mono s2) hn.x hn.nm.1 ?_
    refine ⟨p, _, _, rfl, rfl, e2, by unfold stv; rw [List.length_map, sizeLine_eq]; omega, ?_⟩
    have s3 : Same H (upd H2 p (.lst (stv (yardRows t (yd.take i)) ++ [V.str (tx (headTx n.nm n.x))]))) := s2.updN f1
    have e3 : upd H2 p (.lst (stv (yardRows t (yd.take i)) ++ [V.str (tx (headTx n.nm n.x))])) p = some (.lst (stv (yardRows t (yd.take i) ++ [headTx n.nm n.x]))) := by rw [upd_same, stv_app]; rfl
    generalize upd H2 p (.lst (stv (yardRows t (yd.take i)) ++ [V.str (tx (headTx n.nm n.x))])) = H3 at *
    refine tSeqO.of (fun σ' H' => σ' = [some (.int t), some (.ref qa), some (.ref p), some (.str n.nm), some pv, some (onV n.on)] ∧ Same H H' ∧ H' p = some (.lst (stv (yardRows t (yd.take i) ++ [headTx n.nm n.x] ++ onTx n.on)))) ?_ fun N hN => ?_
    · rintro _ H4 ⟨rfl, s4, e4⟩
      walk_at "rd"
      refine ⟨.inl ⟨rfl, _, SqL.of e4⟩, Pr.of (hpv.mono s4) hn.x fun p5 H5 f5 s5 e5 => ?_⟩
      refine ⟨p, p5, _, _, rfl, rfl, s5 _ _ e4, e5, ?_, ?_⟩
      · unfold stv
        have h3 : (onTx n.on).length ≤ 1 := by
          cases n.on with
          | none => show 0 ≤ 1; decide
          | some z => show 1 ≤ 1; decide
        simp only [List.length_map, List.length_append, List.length_cons, List.length_nil, sizeLine_eq]
        omega
      · refine ⟨_, _, _, rfl, (s4.trans s5).updN f1, ?_⟩
        rw [upd_same, etk, ← stv_app]
        unfold nmdTx
        simp
    · walk_at "rd"
      cases ho : n.on with
      | none =>
        rw [if_neg (by decide)]
        exact ⟨True.intro, hN _ _ ⟨by rw [ho], s3, by rw [e3, ho]; unfold onTx; simp⟩⟩
      | some z =>
        have hz := (hn.on z ho).1
        rw [if_pos (by rw [show onV (some z) = V.str z from rfl, decide_eq_false (fun z => nomatch z)]; rfl)]
        have x1 : Str.ofString "on " = tx (sg "on" ++ [32]) := rfl
        have e4 : Str.empty ++ Str.ofString "on " ++ z = tx (sg "on" ++ 32 :: sg z) := by
          rw [tx_nil, x1]
          conv => lhs; rw [← tx_sg z]
          rw [tx_app, tx_app]; simp
        have l4 : (sg "on" ++ 32 :: sg z).length ≤ 20 := by
          rw [List.length_append, List.length_cons, sg_len]
          show 2 + (z.length + 1) ≤ 20
          omega
        refine ⟨True.intro, .inl ⟨rfl, _, SqL.of e3⟩, _, rfl, by decide, _, rfl, by rw [sizeLine_eq]; omega, _, rfl, ?_, ?_, ?_⟩
        · rw [e4, tx_len, sizeLine_eq]; omega
        · rw [e4, tx_len, sizeLine_eq]; omega
        rw [e4]
        refine ⟨p, _, _, rfl, rfl, e3, ?_, hN _ _ ⟨by rw [ho], s3.updN f1, ?_⟩⟩
        · unfold stv
          simp only [List.length_map, List.length_append, List.length_cons, List.length_nil, sizeLine_eq]
          omega
        · rw [upd_same, ho]
          unfold onTx
          rw [stv_app (yardRows t (yd.take i) ++ [headTx n.nm n.x])]
          rfl
  · rintro σ H2 ⟨o3, o4, o5, rfl, s2, e2⟩
    walk_at "rd"
    rw [hlx, List.take_length] at e2
    have hm := yard_many hG
    refine ⟨rfl, _, p, (yardRows t yd).map tx, rfl, rfl, by rw [e2, stv_str], ?_, ?_⟩
    · have := StrLaws.sumLen_le (B := 300) ((yardRows t yd).map tx) (fun y hy => by
        obtain ⟨x, hx, rfl⟩ := List.mem_map.mp hy
        rw [tx_len]
        exact yard_len ht hG x hx)
      rw [List.length_map] at this ⊢
      have h2 : (yardRows t yd).length ≤ 101 := by unfold yardRows; rw [List.length_cons]; omega
      rw [show (Str.ofString "\n").length = 1 from rfl]
      omega
    · rw [show Str.ofString "\n" = tx [10] from rfl, join_tx]
      exact q _ s2
theorem Yt.of {t : Int} {qa : Addr} {xs : List V} {yd : List Nmd} {H : Hp} {Q : VK} {E : XK} (ht : 0 ≤ t ∧ t ≤ 60) (hq : H qa = some (.lst xs)) (hxs : AtAll H (yd.map nmdP) xs) (hG : ∀ n ∈ yd, NmdG n) (h5 : yd.length ≤ 5) (q : ∀ H', Same H H' → Q (.str (tx (yardTx t yd))) H') : spYt ([.int t, .ref qa] ++ []) H Q E := ⟨t, qa, xs, yd, rfl, ht, hq, hxs, hG, h5, q⟩
end
end K70
namespace K70
open PySem L2
local macro_rules | `(tactic| walk_at "rd") => `(tactic| simp only [L2.start, List.map_cons, List.map_nil, List.length_cons, List.length_nil, Nat.reduceAdd, Nat.reduceSub, List.replicate, List.cons_append, List.nil_append, List.append_nil,
  tSeq, tIfS, tRet, tRetN, tNext, tAsg, gName, tDrop, rd_var0, rd_varS, rd_gcons, rd_gnil, if_true, if_false, Bool.false_eq_true, Bool.not_true, Bool.not_false, rd_set0, rd_setS, rd_eqI, rd_neI, rd_eqS, rd_neS, rd_argI, rd_argB, rd_argII, rd_test, rd_int, rd_ii, tC, tOp, tUn, rI0, rI, rU, tTest, tAnd, tOr, tNot, tAndV, tOrV, tNotV, tIf, tCall, tCB, tCons, tNil, tB, tChain, tSl, tNoPart, tPart, gSub, tPar, tLst, tTup, tLstW, tTupW, tBM, tAug, tPar3, tAugS, ipI, tMaxD, tGT2, tFv, tJs, tJ1, tJ0, tTru])
section
variable {P : Program} {w : World} {K : PySem.W.Frag} {mg : Str → Option Value} {base : Heap} {f : Addr} {fd : FuncData} {k : Nat}
theorem call_strSI {X : Cx} : CallR X (.type "str") (fun vs H Q => ∃ x z, vs = [x] ∧ fmtV x = some z ∧ z.length ≤ sizeLine ∧ Q (.str z) H) := by
  refine .mk ?_
  intro pins s σ H vs us Q I r h
  obtain ⟨x, z, rfl, hz, hl, q⟩ := h
  obtain ⟨u, rfl, ru⟩ := r.one
  cases x with
  | int i =>
    obtain ⟨t, rfl⟩ := ru
    by_cases hd : i.natAbs.log2 < 1920
    · have e : z = Str.ofString (toString i) := (Option.some.inj ((if_pos hd).symm.trans hz)).symm
      subst e
      have := (call_str_int (X := X)).go pins s σ H [.int i] [.int i t] Q I r ⟨i, rfl, hd, q⟩
      exact this
    · have e : (none : Option Str) = some z := (if_neg hd).symm.trans hz
      cases e
  | str y =>
    obtain ⟨t, rfl⟩ := ru
    cases hz
    exact PySem.P.str_of_str ⟨.str _, H, I, ⟨t, rfl⟩, q⟩
  | _ => cases hz
theorem row_full {H : Hp} {r : RowT} {v : V} (hv : At H (rowP r) v) : ∃ a, v = .ref a ∧ H a = some (.tup [.str r.w, .int r.s, .str r.g, .int r.n, .int r.t]) := by
  obtain ⟨a, xs, rfl, ha, hx⟩ := tup_ats hv
  refine ⟨a, rfl, ?_⟩
  obtain ⟨_, _, rfl, h1, hx⟩ := AtAll.uncons hx
  obtain ⟨_, _, rfl, h2, hx⟩ := AtAll.uncons hx
  obtain ⟨_, _, rfl, h3, hx⟩ := AtAll.uncons hx
  obtain ⟨_, _, rfl, h4, hx⟩ := AtAll.uncons hx
  obtain ⟨_, _, rfl, h5, hx⟩ := AtAll.uncons hx
  unfold At at h1 h2 h3 h4 h5
  unfold AtAll at hx
  rw [ha, h1, h2, h3, h4, h5, hx]
def spRwd : Sp := fun vs H Q _ => ∃ (v : V) (r : RowT), vs = [v] ∧ At H (rowP r) v ∧ RowG r ∧ ∀ p H', H p = none → Same H H' → H' p = some (.lst (stv (rowWd r))) → Q (.ref p) H'
theorem sc_l_row_words : FnScope ["_law_row_here", "_law_what", "_law_span", "_law_sign", "_law_number", "_law_step", "_law_words"] ["_law_row_here"] (defScope s_l_row_words) := ⟨rfl, rfl, rfl, by decide +kernel, rfl, by decide +kernel, by decide +kernel⟩
theorem ok_l_row_words (F : Fun K "_law_row_words" "_law_row_words" s_l_row_words f fd) (B : Bi mg) : FnOk P w K mg base CX0 (k + 1) f fd ["_law_row_here"] spRwd := by
  refine F.ok sc_l_row_words (by rintro vs H Q E ⟨v, r, rfl, _⟩; rfl) (fun cdv A outer s H vs Q E hr h => ?_)
  obtain ⟨v, r, rfl, hv, hg, q⟩ := h
  have ND := sc_l_row_words.nd
  obtain ⟨a, rfl, ha⟩ := row_full hv
  have hn := hg.is.n
  have hs := hg.is.s
  refine ⟨_, (pss_cons (ps_asg (pv 0) (pg_tup rfl (pgs_cons (pg_name (i := 1) ND rfl (by first | exact Or.inl rfl | exact Or.inr rfl)) (pgs_cons (pg_name (i := 2) ND rfl (by first | exact Or.inl rfl | exact Or.inr rfl)) (pgs_cons (pg_name (i := 3) ND rfl (by first | exact Or.inl rfl | exact Or.inr rfl)) (pgs_cons (pg_name (i := 4) ND rfl (by first | exact Or.inl rfl | exact Or.inr rfl)) (pgs_cons (pg_name (i := 5) ND rfl (by first | exact Or.inl rfl | exact Or.inr rfl)) pgs_nil))))))) (pss_cons (ps_set (i := 6) ND rfl (by first | exact Or.inl rfl | exact Or.inr rfl) (pe_lstW (pa_c (pv 1) (pa_c (pv 3) (pa_c (pt (call_str_int) B.str bt_str (pa_c (pv 4) pa_nil)) (pa_c pe_str (pa_c (pt (call_str_int) B.str bt_str (pa_c (pv 2) pa_nil)) pa_nil))))))) (pss_cons (ps_if (pt_cmpR op_ne (pv 3) pe_str (nomark _)) (pss_one (ps_set (i := 6) ND rfl (by first | exact Or.inl rfl | exact Or.inr rfl) (pe_op op_cat (pv 6) (pe_lstW (pa_c (pe_ix ix_obj (pe_lstW (pa_c pe_str (pa_c pe_str pa_nil))) (pt (call_intB) B.int bt_int (pa_c (pe_cmpR op_gt (pv 5) pe_int (nomark _)) pa_nil)) (fun _ _ => rfl)) (pa_c (pt (call_str_int) B.str bt_str (pa_c (pb (call_abs) B.abs bt_abs (pa_c (pv 5) pa_nil)) pa_nil)) pa_nil)))))) pss_nil) (pss_one (ps_ret (pv 6)))))), ?_⟩
  walk_at "rd"
  refine ⟨a, _, rfl, SqT.of ha, rfl, ?_⟩
  walk_at "rd"
  refine ⟨log_small (by omega), log_small (by omega), by decide, fun p H1 f1 s1 e1 => ?_⟩
  rw [str_dg hn.1, str_dg (by omega)] at e1
  have e1' : H1 p = some (.lst (stv [sg r.w, sg r.g, dg r.n, [105, 110], dg r.s])) := by
    rw [e1]
    unfold stv
    simp only [List.map_cons, List.map_nil, tx_sg]
    rfl
  by_cases e : r.g = "each"
  · rw [if_neg (by rw [decide_eq_true e]; decide)]
    refine q p H1 f1 s1 ?_
    rw [e1']
    unfold rowWd
    rw [if_pos e, List.append_nil]
  · rw [if_pos (by rw [decide_eq_false e]; decide)]
    have ht := hg.t e
    have ab : 0 ≤ absN r.t ∧ absN r.t ≤ 12 := by unfold absN; split <;> omega
    refine ⟨by decide, fun p2 H2 f2 s2 e2 => ?_⟩
    have key : ∀ m : List Nat, m = (if 0 < r.t then sg "more" else sg "fewer") → rIxO (.ref p2) (.int (if decide (0 < r.t) = true then 1 else 0)) H2 fun x H1 => x = V.str (tx m) ∧ H1 = H2 := fun m em => by
      by_cases c : 0 < r.t
      · rw [if_pos (decide_eq_true c)]
        refine Ix.lst e2 (atI_nat (j := 1) rfl) ⟨?_, rfl⟩
        rw [em, if_pos c, tx_sg]
      · rw [if_neg (by rw [decide_eq_false c]; decide)]
        refine Ix.lst e2 (atI_nat (j := 0) rfl) ⟨?_, rfl⟩
        rw [em, if_neg c, tx_sg]
    obtain ⟨q0, xs0, i0, v0, k1, k2, k3, k4, k5, k6⟩ := key _ rfl
    subst k5
    refine ⟨q0, xs0, i0, _, k1, k2, k3, k4, log_small (by unfold absN at ab; omega), by decide, fun p3 H3 f3 s3 e3 => ?_⟩
    have e4 : Str.ofString (toString (if r.t < 0 then -r.t else r.t)) = tx (dg (absN r.t)) := str_dg (n := absN r.t) ab.1
    rw [e4] at e3
    refine ⟨p, p3, _, _, rfl, rfl, s3 _ _ (s2 _ _ e1'), e3, by unfold stv; rw [List.length_map, sizeLine_eq]; simp, fun p5 f5 => ?_⟩
    refine q p5 _ (s1.free (s2.free (s3.free f5))) (s1.trans (s2.trans (s3.trans (same_new f5 _)))) ?_
    rw [upd_same]
    congr 2
    unfold rowWd
    rw [if_neg e, stv_app]
    rfl
theorem Rwd.of {v : V} {r : RowT} {H : Hp} {Q : VK} {E : XK} (hv : At H (rowP r) v) (hg : RowG r) (q : ∀ p H', H p = none → Same H H' → H' p = some (.lst (stv (rowWd r))) → Q (.ref p) H') : spRwd ([v] ++ []) H Q E := ⟨v, r, rfl, hv, hg, q⟩
/-! ### lists of words -/
def wdP (w : List (List Nat)) : PyData := .list (w.map fun z => .str (tx z))
theorem ats_stv {H : Hp} : ∀ w : List (List Nat), AtAll H (w.map fun z => PyData.str (tx z)) (stv w)
  | [] => AtAll.nil
  | z :: w => AtAll.cons (At.str _) (ats_stv w)
theorem wd_at {H : Hp} {p : Addr} {w : List (List Nat)} (h : H p = some (.lst (stv w))) : At H (wdP w) (.ref p) := At.lst h (ats_stv w)
theorem new_hid {H : Hp} {p : Addr} {o : HO} (h : H p = none) : Same H (hid p (upd H p o)) := fun b u q => by
  have n := ne_of_none q h
  rw [hid_upd, hid_ne n]; exact q
def ruleWd (rs : List RowT) : List (List (List Nat)) := [sg "rule"] :: rs.map rowWd
def rulesWd (rss : List (List RowT)) : List (List (List Nat)) := (rss.map ruleWd).flatten
theorem rulesWd_len {rss : List (List RowT)} (h2 : ∀ rs ∈ rss, RulG rs) : (rulesWd rss).length ≤ 5 * rss.length := by
  induction rss with
  | nil => simp [rulesWd]
  | cons rs r ih =>
    have h := (h2 rs (List.mem_cons_self ..)).hi
    have ih := ih fun x hx => h2 x (List.mem_cons_of_mem _ hx)
    unfold rulesWd at ih ⊢
    rw [List.map_cons, List.flatten_cons, List.length_append]
    unfold ruleWd at ih ⊢
    simp only [List.length_cons, List.length_map] at ih ⊢
    omega
def spRs : Sp := fun vs H Q _ => ∃ (v : V) (x : Pst), vs = [v] ∧ At H (pstD x) v ∧ PsL x ∧ ∀ p xs H', H p = none → Same H H' → H' p = some (.lst xs) → AtAll H' ((rulesWd x.rss).map wdP) xs → Q (.ref p) H'
theorem sc_l_rules_words : FnScope ["_law_post_here", "_law_rows", "_law_rule"] ["_law_post_here"] (defScope s_l_rules_words) := ⟨rfl, rfl, rfl, by decide +kernel, rfl, by decide +kernel, by decide +kernel⟩
theorem ok_l_rules_words (F : Fun K "_law_rules_words" "_law_rules_words" s_l_rules_words f fd) (B : Bi mg) (c_l_row_words : Ct P w K mg base k "_law_row_words" ["_law_row_here"] spRwd) : FnOk P w K mg base CX0 (k + 1) f fd ["_law_post_here"] spRs := by
  refine F.ok sc_l_rules_words (by rintro vs H Q E ⟨v, x, rfl, _⟩; rfl) (fun cdv A outer s H vs Q E hr h => ?_)
  obtain ⟨v, x, rfl, hv, hx, q⟩ := h
  have ND := sc_l_rules_words.nd
  refine ⟨_, (pss_cons (ps_set (i := 1) ND rfl (by first | exact Or.inl rfl | exact Or.inr rfl) (pe_lstW pa_nil)) (pss_cons (ps_for PassesOwn.never rfl (pi_tup (pe_ix ix_tup (pv 0) pe_int (fun _ _ => rfl))) (pg_name (i := 2) ND rfl (by first | exact Or.inl rfl | exact Or.inr rfl)) (pss_one (ps_set (i := 1) ND rfl (by first | exact Or.inl rfl | exact Or.inr rfl) (pe_op op_cat (pe_op op_cat (pv 1) (pe_lstW (pa_c (pe_lstW (pa_c pe_str pa_nil)) pa_nil))) (pe_comp (N' := ["_law_row_here"]) (js := []) rfl (pi_tup (pv 2)) CSc.mk0 rfl (by decide) rfl (fun fp s' H' => (pf c_l_row_words hr (pa_c (pv 0) pa_nil)))))))) (pss_one (ps_ret (pv 1))))), ?_⟩
  walk_at "rd"
  refine ⟨by decide, fun p H1 f1 s1 e1 => ?_⟩
  rw [tFor_tup]
  walk_at "rd"
  obtain ⟨a, b, c, d, ys, rfl, ha, hb, hc, hd, hys⟩ := pst_full hv
  refine ⟨a, _, _, .ref d, rfl, rfl, SqT.of (s1 _ _ ha), atI_nat (j := 6) rfl, ?_⟩
  have hly : ys.length = x.rss.length := by rw [hys.length, List.length_map]
  have hn3 := hx.n
  refine TK.of (s1 _ _ hd) (fun i σ H' => ∃ pp xs o, σ = [some (.ref a), some (.ref pp), o] ∧ Same H H' ∧ H pp = none ∧ H' pp = some (.lst xs) ∧ AtAll H' ((rulesWd (x.rss.take i)).map wdP) xs) ⟨p, [], none, rfl, s1, f1, e1, AtAll.nil⟩ (fun i σ H' _ h => by obtain ⟨_, _, o, _, s, _⟩ := h; exact s _ _ hd) ?_ ?_
  · rintro i y σ H2 hy ⟨pp, xs, o, rfl, s2, fp, e2, hxs⟩
    obtain ⟨e, ee, he⟩ := hys.get hy
    rw [List.getElem?_map] at ee
    cases hg : x.rss[i]? with
    | none => rw [hg] at ee; cases ee
    | some rs =>
    rw [hg] at ee
    cases ee
    have hrs := hx.r rs (List.mem_of_getElem? hg)
    have hi : i < x.rss.length := (List.getElem?_eq_some_iff.mp hg).1
    have etk : rulesWd (x.rss.take (i + 1)) = rulesWd (x.rss.take i) ++ ruleWd rs := by
      have e3 : x.rss[i] = rs := (List.getElem?_eq_some_iff.mp hg).2
      unfold rulesWd
      rw [List.take_succ_eq_append_getElem hi, List.map_append, List.flatten_append, e3]
      simp
    have hlt : (rulesWd (x.rss.take i)).length ≤ 15 := by
      have := rulesWd_len (rss := x.rss.take i) (fun rs h => hx.r rs (List.mem_of_mem_take h))
      rw [List.length_take] at this
      omega
    have hr4 := hrs.hi
    walk_at "rd"
    refine ⟨by decide, fun p3 H3 f3 s3 e3 => ⟨by decide, fun p4 H4 f4 s4 e4 => ?_⟩⟩
    have hlx : xs.length ≤ 15 := by rw [hxs.length, List.length_map]; exact hlt
    refine ⟨pp, p4, _, _, rfl, rfl, s4 _ _ (s3 _ _ e2), e4, by rw [sizeLine_eq]; simp only [List.length_cons, List.length_nil]; omega, fun p5 f5 => ?_⟩
    have s25 := s3.trans (s4.trans (same_new f5 (.lst (xs ++ [V.ref p3]))))
    have e5 : upd H4 p5 (.lst (xs ++ [V.ref p3])) p5 = some (.lst (xs ++ [V.ref p3])) := upd_same
    have e35 : upd H4 p5 (.lst (xs ++ [V.ref p3])) p3 = some (.lst (stv [sg "rule"])) := same_new f5 _ _ _ (s4 _ _ e3)
    generalize upd H4 p5 (.lst (xs ++ [V.ref p3])) = H5 at *
    obtain ⟨ra, rxs, rfl, hra, hrx⟩ := tup_ats (he.mono (s2.trans s25))
    have hrl2 : rxs.length = rs.length := by rw [hrx.length, List.length_map]
    refine comp_TJ (fun R hR => ?_) hra (by rw [sizeLine_eq]; omega) fun acc hacc => ?_
    · walk_at "rd"; exact hR
    refine ⟨fun j zs H' => zs.length = j ∧ Same H5 H' ∧ H' acc = some (.lst zs) ∧ AtAll (hid acc H') ((rs.take j).map fun r => wdP (rowWd r)) zs, ⟨rfl, same_new hacc _, upd_same, AtAll.nil⟩, ?_, ?_, ?_⟩
    · rintro j zs H' _ ⟨l1, s', e', _⟩
      exact ⟨l1, s' _ _ hra, e'⟩
    · rintro j z zs H' hz ⟨l1, s', e', A'⟩ R hR
      obtain ⟨e0, ee0, he0⟩ := hrx.get hz
      rw [List.getElem?_map] at ee0
      cases hg' : rs[j]? with
      | none => rw [hg'] at ee0; cases ee0
      | some r =>
      rw [hg'] at ee0
      cases ee0
      have hj : j < rs.length := (List.getElem?_eq_some_iff.mp hg').1
      walk_at "rd"
      refine Rwd.of (he0.mono s') (hrs.g r (List.mem_of_getElem? hg')) fun p6 H6 f6 s6 e6 => hR _ _ (s6 _ _ e') ⟨by rw [List.length_append, l1]; rfl, (s'.trans s6).updN hacc, upd_same, ?_⟩
      have n6 : p6 ≠ acc := fun w => by rw [w, e'] at f6; cases f6
      have e3 : rs[j] = r := (List.getElem?_eq_some_iff.mp hg').2
      rw [hid_upd, List.take_succ_eq_append_getElem hj, List.map_append, e3]
      exact (A'.mono (Same.hid s6)).append (AtAll.cons (wd_at (by rw [hid_ne n6]; exact e6)) AtAll.nil)
    · rintro zs H6 ⟨l1, s6, e6, A6⟩
      rw [hrl2] at A6 l1
      rw [List.take_length] at A6
      refine ⟨p5, acc, _, _, rfl, rfl, s6 _ _ e5, e6, by rw [List.length_append, sizeLine_eq]; simp only [List.length_cons, List.length_nil]; omega, fun p7 f7 => ?_⟩
      have s67 := s6.trans (same_new f7 (.lst (xs ++ [V.ref p3] ++ zs)))
      have s27 := s25.trans s67
      refine ⟨p7, _, _, rfl, s2.trans s27, s2.free (s25.free (s6.free f7)), upd_same, ?_⟩
      have A7 : AtAll (upd H6 p7 (.lst (xs ++ [V.ref p3] ++ zs))) ((ruleWd rs).map wdP) ([V.ref p3] ++ zs) := by
        unfold ruleWd
        rw [List.map_cons]
        refine AtAll.cons (wd_at (s67 _ _ e35)) ?_
        rw [List.map_map]
        exact (A6.mono hid_sub).mono (same_new f7 _)
      have A8 := (hxs.mono s27).append A7
      rw [← List.map_append, ← etk, ← List.append_assoc] at A8
      exact A8
  · rintro σ H2 ⟨pp, xs, o, rfl, s2, fp, e2, hxs⟩
    walk_at "rd"
    rw [hly, List.take_length] at hxs
    exact q pp xs H2 fp s2 e2 hxs
theorem Rs.of {v : V} {x : Pst} {H : Hp} {Q : VK} {E : XK} (hv : At H (pstD x) v) (hx : PsL x) (q : ∀ p xs H', H p = none → Same H H' → H' p = some (.lst xs) → AtAll H' ((rulesWd x.rss).map wdP) xs → Q (.ref p) H') : spRs ([v] ++ []) H Q E := ⟨v, x, rfl, hv, hx, q⟩
inductive FZ : List V → List Str → Prop
  | nil : FZ [] []
  | cons {x : V} {z : Str} {xs : List V} {zs : List Str} (h : fmtV x = some z) (l : z.length ≤ sizeLine) (r : FZ xs zs) : FZ (x :: xs) (z :: zs)
theorem FZ.get : ∀ {xs : List V} {zs : List Str}, FZ xs zs → ∀ {i : Nat} {x : V} {z : Str}, xs[i]? = some x → zs[i]? = some z → fmtV x = some z ∧ z.length ≤ sizeLine
  | _, _, .nil, i, x, z, h, _ => by simp at h
  | _, _, .cons h l r, 0, x, z, hx, hz => by cases hx; cases hz; exact ⟨h, l⟩
  | _, _, .cons h l r, i + 1, x, z, hx, hz => r.get (i := i) hx hz
def spPw : Sp := fun vs H Q _ => ∃ (v : V) (nm : Str) (x : Pst), vs = [.str nm, v] ∧ At H (pstD x) v ∧ PsL x ∧ nm.length ≤ 8 ∧ ∀ p H', H p = none → Same H H' → H' p = some (.lst (stv (headWd nm x))) → Q (.ref p) H'
theorem sc_l_post_words : FnScope ["_law_name", "_law_post_here", "_law_pace", "_law_room", "_law_hands", "_law_late", "_law_every", "_law_rests", "_law_rules", "_law_numbers"] ["_law_name", "_law_post_here"] (defScope s_l_post_words) := ⟨rfl, rfl, rfl, by decide +kernel, rfl, by decide +kernel, by decide +kernel⟩
theorem ok_l_post_words (F : Fun K "_law_post_words" "_law_post_words" s_l_post_words f fd) (B : Bi mg) : FnOk P w K mg base CX0 (k + 1) f fd ["_law_name", "_law_post_here"] spPw := by
  refine F.ok sc_l_post_words (by rintro vs H Q E ⟨v, nm, x, rfl, _⟩; rfl) (fun cdv A outer s H vs Q E hr h => ?_)
  obtain ⟨v, nm, x, rfl, hv, hx, hnm, q⟩ := h
  have ND := sc_l_post_words.nd
  obtain ⟨a, b, c, d, ys, rfl, ha, hb, hc, hd, hys⟩ := pst_full hv
  refine ⟨_, (pss_cons (ps_asg (pv 1) (pg_tup rfl (pgs_cons (pg_name (i := 2) ND rfl (by first | exact Or.inl rfl | exact Or.inr rfl)) (pgs_cons (pg_name (i := 3) ND rfl (by first | exact Or.inl rfl | exact Or.inr rfl)) (pgs_cons (pg_name (i := 4) ND rfl (by first | exact Or.inl rfl | exact Or.inr rfl)) (pgs_cons (pg_name (i := 5) ND rfl (by first | exact Or.inl rfl | exact Or.inr rfl)) (pgs_cons (pg_name (i := 6) ND rfl (by first | exact Or.inl rfl | exact Or.inr rfl)) (pgs_cons (pg_name (i := 7) ND rfl (by first | exact Or.inl rfl | exact Or.inr rfl)) (pgs_cons (pg_name (i := 8) ND rfl (by first | exact Or.inl rfl | exact Or.inr rfl)) pgs_nil))))))))) (pss_cons (ps_set (i := 9) ND rfl (by first | exact Or.inl rfl | exact Or.inr rfl) (pe_lstW (pa_c pe_str (pa_c (pv 2) (pa_c pe_str (pa_c (pv 3) (pa_c pe_str (pa_c (pe_ix ix_obj (pv 4) pe_int (fun _ _ => rfl)) (pa_c (pe_ix ix_obj (pv 4) pe_int (fun _ _ => rfl)) (pa_c pe_str (pa_c (pv 5) (pa_c pe_str (pa_c (pv 6) (pa_c pe_str pa_nil)))))))))))))) (pss_one (ps_ret (pe_op op_cat (pe_lstW (pa_c pe_str (pa_c (pv 0) pa_nil))) (pe_comp (N' := ["_law_one"]) (js := []) rfl (pi_list (pe_op op_cat (pv 9) (pe_lstW (pa_c (pe_ix ix_obj (pv 7) pe_int (fun _ _ => rfl)) (pa_c (pe_ix ix_obj (pv 7) pe_int (fun _ _ => rfl)) pa_nil))))) CSc.mk0 rfl (by decide) rfl (fun fp s' H' => (pt (call_strSI) B.str bt_str (pa_c (pv 0) pa_nil))))))))), ?_⟩
  walk_at "rd"
  refine ⟨a, _, rfl, SqT.of ha, rfl, ?_⟩
  walk_at "rd"
  refine Ix.tup hb (atI_nat (j := 0) rfl) (Ix.tup hb (atI_nat (j := 1) rfl) ?_)
  refine ⟨by decide, fun p1 H1 f1 s1 e1 => ⟨by decide, fun p2 H2 f2 s2 e2 => ?_⟩⟩
  rw [tComp_lst]
  walk_at "rd"
  have hc2 := s2 _ _ (s1 _ _ hc)
  refine Ix.tup hc2 (atI_nat (j := 0) rfl) (Ix.tup hc2 (atI_nat (j := 1) rfl) ⟨by decide, fun p3 H3 f3 s3 e3 => ?_⟩)
  refine ⟨p1, p3, _, _, rfl, rfl, s3 _ _ (s2 _ _ e1), e3, by rw [sizeLine_eq]; simp, fun p4 f4 => ?_⟩
  show tComp _ _ _ _ _ _
  have p1' := hx.p
  have p2' := hx.m
  have p3' := hx.lo
  have p4' := hx.hi
  have p5' := hx.a
  have p6' := hx.e
  have p7' := hx.u
  have p8' := hx.d
  obtain ⟨l1, l2, l3, l4, l5, l6, l7, l8⟩ := post_lens hx
  have s4 := s1.trans (s2.trans (s3.trans (same_new f4 (.lst ([V.str "pace", V.int x.p, V.str "room", V.int x.m, V.str "hands", V.int x.lo, V.int x.hi, V.str "late", V.int x.a, V.str "every", V.int x.e, V.str "rests"] ++ [V.int x.u, V.int x.d])))))
  have e24 := same_new f4 (.lst ([V.str "pace", V.int x.p, V.str "room", V.int x.m, V.str "hands", V.int x.lo, V.int x.hi, V.str "late", V.int x.a, V.str "every", V.int x.e, V.str "rests"] ++ [V.int x.u, V.int x.d])) _ _ (s3 _ _ e2)
  have e4 : upd H3 p4 (.lst ([V.str "pace", V.int x.p, V.str "room", V.int x.m, V.str "hands", V.int x.lo, V.int x.hi, V.str "late", V.int x.a, V.str "every", V.int x.e, V.str "rests"] ++ [V.int x.u, V.int x.d])) p4 = some (.lst [V.str "pace", V.int x.p, V.str "room", V.int x.m, V.str "hands", V.int x.lo, V.int x.hi, V.str "late", V.int x.a, V.str "every", V.int x.e, V.str "rests", V.int x.u, V.int x.d]) := upd_same
  have fz : FZ [V.str "pace", V.int x.p, V.str "room", V.int x.m, V.str "hands", V.int x.lo, V.int x.hi, V.str "late", V.int x.a, V.str "every", V.int x.e, V.str "rests", V.int x.u, V.int x.d] ["pace", tx (dg x.p), "room", tx (dg x.m), "hands", tx (dg x.lo), tx (dg x.hi), "late", tx (dg x.a), "every", tx (dg x.e), "rests", tx (dg x.u), tx (dg x.d)] := by
    have L : ∀ l : List Nat, l.length ≤ 13 → (tx l).length ≤ sizeLine := fun l h => by rw [tx_len, sizeLine_eq]; omega
    exact .cons rfl (by decide) (.cons (fmt_dg (by omega) (by omega)) (L _ (by omega)) (.cons rfl (by decide) (.cons (fmt_dg (by omega) (by omega)) (L _ (by omega)) (.cons rfl (by decide) (.cons (fmt_dg (by omega) (by omega)) (L _ (by omega)) (.cons (fmt_dg (by omega) (by omega)) (L _ (by omega)) (.cons rfl (by decide) (.cons (fmt_dg (by omega) (by omega)) (L _ (by omega)) (.cons rfl (by decide) (.cons (fmt_dg (by omega) (by omega)) (L _ (by omega)) (.cons rfl (by decide) (.cons (fmt_dg (by omega) (by omega)) (L _ (by omega)) (.cons (fmt_dg (by omega) (by omega)) (L _ (by omega)) .nil)))))))))))))
  generalize upd H3 p4 (.lst ([V.str "pace", V.int x.p, V.str "room", V.int x.m, V.str "hands", V.int x.lo, V.int x.hi, V.str "late", V.int x.a, V.str "every", V.int x.e, V.str "rests"] ++ [V.int x.u, V.int x.d])) = H4 at *
  refine comp_LS (zs := ["pace", tx (dg x.p), "room", tx (dg x.m), "hands", tx (dg x.lo), tx (dg x.hi), "late", tx (dg x.a), "every", tx (dg x.e), "rests", tx (dg x.u), tx (dg x.d)]) (fun R hR => hR) e4 (by rw [sizeLine_eq]; show 14 ≤ 16777216; decide) rfl (fun j y z H' hy hz s' R hR => ?_) fun acc H5 s5 fa e5 => ?_
  · walk_at "rd"
    obtain ⟨h1, h2⟩ := fz.get hy hz
    exact ⟨_, _, rfl, h1, h2, hR _ (Same.refl _)⟩
  · refine ⟨p2, acc, _, _, rfl, rfl, s5 _ _ e24, e5, by rw [sizeLine_eq]; simp, fun p6 f6 => ?_⟩
    refine q p6 _ (s4.free (s5.free f6)) (s4.trans (s5.trans (same_new f6 _))) ?_
    rw [upd_same]
    unfold headWd stv
    simp only [List.map_cons, List.map_nil, tx_sg]
    rfl
theorem Pw.of {v : V} {nm : Str} {x : Pst} {H : Hp} {Q : VK} {E : XK} (hv : At H (pstD x) v) (hx : PsL x) (hn : nm.length ≤ 8) (q : ∀ p H', H p = none → Same H H' → H' p = some (.lst (stv (headWd nm x))) → Q (.ref p) H') : spPw ([.str nm, v] ++ []) H Q E := ⟨v, nm, x, rfl, hv, hx, hn, q⟩
end
end K70
namespace K70
open PySem L2
local macro_rules | `(tactic| walk_at "rd") => `(tactic| simp only [L2.start, List.map_cons, List.map_nil, List.length_cons, List.length_nil, Nat.reduceAdd, Nat.reduceSub, List.replicate, List.cons_append, List.nil_append, List.append_nil,
  tSeq, tIfS, tRet, tRetN, tNext, tAsg, gName, tDrop, rd_var0, rd_varS, rd_gcons, rd_gnil, if_true, if_false, Bool.false_eq_true, Bool.not_true, Bool.not_false, rd_set0, rd_setS, rd_eqI, rd_neI, rd_eqS, rd_neS, rd_argI, rd_argB, rd_argII, rd_test, rd_int, rd_ii, tC, tOp, tUn, rI0, rI, rU, tTest, tAnd, tOr, tNot, tAndV, tOrV, tNotV, tIf, tCall, tCB, tCons, tNil, tB, tChain, tSl, tNoPart, tPart, gSub, tPar, tLst, tTup, tLstW, tTupW, tBM, tAug, tPar3, tAugS, ipI, tMaxD, tGT2, tFv, tJs, tJ1, tJ0, tTru])
section
variable {P : Program} {w : World} {K : PySem.W.Frag} {mg : Str → Option Value} {base : Heap} {f : Addr} {fd : FuncData} {k : Nat}
def onWd : Option Str → List (List (List Nat))
  | none => []
  | some z => [[sg "on", sg z]]
def nmdWd (n : Nmd) : List (List (List Nat)) := headWd n.nm n.x :: (onWd n.on ++ rulesWd n.x.rss)
def yardWd (t : Int) (yd : List Nmd) : List (List (List Nat)) := [sg "yard", dg t] :: (yd.map nmdWd).flatten
theorem rulesWd_tx (rss : List (List RowT)) : (rulesWd rss).map (jn [32]) = rulesTx rss := by
  unfold rulesWd rulesTx
  rw [List.map_flatten, List.map_map]
  congr 1
  refine List.map_congr_left fun rs _ => ?_
  show (ruleWd rs).map (jn [32]) = ruleTx rs
  unfold ruleWd ruleTx
  rw [List.map_cons, List.map_map]
  rfl
theorem nmdWd_tx (n : Nmd) : (nmdWd n).map (jn [32]) = nmdTx n := by
  unfold nmdWd nmdTx
  rw [List.map_cons, List.map_append, rulesWd_tx]
  congr 1
  congr 1
  cases n.on with
  | none => rfl
  | some z => show [sg "on" ++ [32] ++ sg z] = [sg "on" ++ 32 :: sg z]; simp
theorem yardWd_tx (t : Int) (yd : List Nmd) : (yardWd t yd).map (jn [32]) = yardRows t yd := by
  unfold yardWd yardRows
  rw [List.map_cons, List.map_flatten, List.map_map]
  have h1 : jn [32] [sg "yard", dg t] = sg "yard" ++ 32 :: dg t := by show sg "yard" ++ [32] ++ dg t = _; simp
  have h2 : yd.map (List.map (jn [32]) ∘ nmdWd) = yd.map nmdTx := List.map_congr_left fun n _ => nmdWd_tx n
  rw [h1, h2]
/-- few words, short ones -/
def WdG (w : List (List Nat)) : Prop := w.length ≤ 20 ∧ ∀ z ∈ w, z.length ≤ 20
theorem rowWd_G {r : RowT} (h : RowG r) : WdG (rowWd r) := by
  obtain ⟨l1, l2, l3, l4, l5⟩ := row_lens h
  refine ⟨by unfold rowWd; split <;> simp, fun z hz => ?_⟩
  unfold rowWd at hz
  simp only [List.mem_append, List.mem_cons, List.not_mem_nil, or_false] at hz
  rcases hz with (rfl | rfl | rfl | rfl | rfl) | hz
  · rw [sg_len]; omega
  · rw [sg_len]; omega
  · omega
  · decide
  · omega
  · split at hz
    · cases hz
    · simp only [List.mem_cons, List.not_mem_nil, or_false] at hz
      rcases hz with rfl | rfl
      · split <;> decide
      · omega
theorem headWd_G {n : Nmd} (h : NmdG n) : WdG (headWd n.nm n.x) := by
  obtain ⟨l1, l2, l3, l4, l5, l6, l7, l8⟩ := post_lens h.x
  have hn := h.nm.1
  refine ⟨by show 16 ≤ 20; decide, fun z hz => ?_⟩
  unfold headWd at hz
  simp only [List.mem_cons, List.not_mem_nil, or_false] at hz
  rcases hz with rfl | rfl | rfl | rfl | rfl | rfl | rfl | rfl | rfl | rfl | rfl | rfl | rfl | rfl | rfl | rfl
  any_goals omega
  any_goals decide
  rw [sg_len]; omega
theorem yardWd_G {t : Int} {yd : List Nmd} (ht : 0 ≤ t ∧ t ≤ 60) (h : ∀ n ∈ yd, NmdG n) : ∀ w ∈ yardWd t yd, WdG w := by
  intro w hw
  unfold yardWd at hw
  rcases List.mem_cons.mp hw with rfl | hw
  · have := dg_len (n := t) (k := 2) (by decide) (by omega)
    refine ⟨by show 2 ≤ 20; decide, fun z hz => ?_⟩
    simp only [List.mem_cons, List.not_mem_nil, or_false] at hz
    rcases hz with rfl | rfl
    · decide
    · omega
  · obtain ⟨l, hl, hw⟩ := List.mem_flatten.mp hw
    obtain ⟨n, hn, rfl⟩ := List.mem_map.mp hl
    have hN := h n hn
    unfold nmdWd at hw
    rcases List.mem_cons.mp hw with rfl | hw
    · exact headWd_G hN
    · rcases List.mem_append.mp hw with hw | hw
      · cases ho : n.on with
        | none => rw [ho] at hw; cases hw
        | some y =>
          rw [ho] at hw
          have := (hN.on y ho).1
          rw [List.mem_singleton.mp hw]
          refine ⟨by show 2 ≤ 20; decide, fun z hz => ?_⟩
          simp only [List.mem_cons, List.not_mem_nil, or_false] at hz
          rcases hz with rfl | rfl
          · decide
          · rw [sg_len]; omega
      · unfold rulesWd at hw
        obtain ⟨l, hl, hw⟩ := List.mem_flatten.mp hw
        obtain ⟨rs, hrs, rfl⟩ := List.mem_map.mp hl
        unfold ruleWd at hw
        rcases List.mem_cons.mp hw with rfl | hw
        · exact ⟨by decide, fun z hz => by rw [List.mem_singleton.mp hz]; decide⟩
        · obtain ⟨r, hr, rfl⟩ := List.mem_map.mp hw
          exact rowWd_G ((hN.x.r rs hrs).g r hr)
theorem yardWd_many {t : Int} {yd : List Nmd} (h : ∀ n ∈ yd, NmdG n) : (yardWd t yd).length ≤ 1 + 20 * yd.length := by
  have := congrArg List.length (yardWd_tx t yd)
  rw [List.length_map] at this
  rw [this]
  have := yard_many h
  unfold yardRows
  rw [List.length_cons]
  omega
def spYw : Sp := fun vs H Q _ => ∃ (t : Int) (q : Addr) (xs : List V) (yd : List Nmd), vs = [.int t, .ref q] ∧ (0 ≤ t ∧ t ≤ 60) ∧ H q = some (.lst xs) ∧ AtAll H (yd.map nmdP) xs ∧ (∀ n ∈ yd, NmdG n) ∧ yd.length ≤ 5 ∧
  ∀ p zs H', H p = none → Same H H' → H' p = some (.lst zs) → AtAll H' ((yardWd t yd).map wdP) zs → Q (.ref p) H'
theorem sc_l_yard_words : FnScope ["_law_total", "_law_posts", "_law_rows", "_law_name", "_law_post_here", "_law_onward"] ["_law_total", "_law_posts"] (defScope s_l_yard_words) := ⟨rfl, rfl, rfl, by decide +kernel, rfl, by decide +kernel, by decide +kernel⟩
theorem ok_l_yard_words (F : Fun K "_law_yard_words" "_law_yard_words" s_l_yard_words f fd) (B : Bi mg) (c_l_post_words : Ct P w K mg base k "_law_post_words" ["_law_name", "_law_post_here"] spPw) (c_l_rules_words : Ct P w K mg base k "_law_rules_words" ["_law_post_here"] spRs) : FnOk P w K mg base CX0 (k + 1) f fd ["_law_total", "_law_posts"] spYw := by
  refine F.ok sc_l_yard_words (by rintro vs H Q E ⟨t, q, xs, yd, rfl, _⟩; rfl) (fun cdv A outer s H vs Q E hr h => ?_)
  obtain ⟨t, qa, xs, yd, rfl, ht, hq, hxs, hG, h5, q⟩ := h
  have ND := sc_l_yard_words.nd
  refine ⟨_, (pss_cons (ps_set (i := 2) ND rfl (by first | exact Or.inl rfl | exact Or.inr rfl) (pe_lstW (pa_c (pe_lstW (pa_c pe_str (pa_c (pt (call_str_int) B.str bt_str (pa_c (pv 0) pa_nil)) pa_nil))) pa_nil))) (pss_cons (ps_for PassesOwn.never rfl (pi_list (pv 1)) (pg_tup rfl (pgs_cons (pg_name (i := 3) ND rfl (by first | exact Or.inl rfl | exact Or.inr rfl)) (pgs_cons (pg_name (i := 4) ND rfl (by first | exact Or.inl rfl | exact Or.inr rfl)) (pgs_cons (pg_name (i := 5) ND rfl (by first | exact Or.inl rfl | exact Or.inr rfl)) pgs_nil)))) (pss_cons (ps_expr (pe_bm PySem.F.plainAttrs_list PySem.F.slot_list_append PySem.F.type_list_append mt_append (pv 2) (pa_c (pf c_l_post_words hr (pa_c (pv 3) (pa_c (pv 4) pa_nil))) pa_nil))) (pss_cons (ps_if (pt_cmpR op_notN (pv 5) pe_non (nomark _)) (pss_one (ps_expr (pe_bm PySem.F.plainAttrs_list PySem.F.slot_list_append PySem.F.type_list_append mt_append (pv 2) (pa_c (pe_lstW (pa_c pe_str (pa_c (pv 5) pa_nil))) pa_nil)))) pss_nil) (pss_one (ps_set (i := 2) ND rfl (by first | exact Or.inl rfl | exact Or.inr rfl) (pe_op op_cat (pv 2) (pf c_l_rules_words hr (pa_c (pv 4) pa_nil)))))))) (pss_one (ps_ret (pv 2))))), ?_⟩
  simp only [seqOi]
  walk_at "rd"
  refine ⟨log_small (by omega), by decide, fun p0 H0 f0 s0 e0 => ⟨by decide, fun p H1 f1 s1 e1 => ?_⟩⟩
  rw [str_dg ht.1] at e0
  rw [tFor_lst]
  walk_at "rd"
  have hlx : xs.length = yd.length := by rw [hxs.length, List.length_map]
  have n0 : p0 ≠ p := fun z => by rw [← z, e0] at f1; cases f1
  have s01 := s0.trans s1
  refine LK.of (xs := xs) (s01 _ _ hq) (fun i σ H' => ∃ pp zs o3 o4 o5, σ = [some (.int t), some (.ref qa), some (.ref pp), o3, o4, o5] ∧ Same H H' ∧ H pp = none ∧ H' pp = some (.lst zs) ∧ AtAll (hid pp H') ((yardWd t (yd.take i)).map wdP) zs)
    ⟨p, [.ref p0], none, none, none, rfl, s01, s0.free f1, e1, AtAll.cons (wd_at (by rw [hid_ne n0, s1 _ _ e0]; unfold stv; simp only [List.map_cons, List.map_nil, tx_sg])) AtAll.nil⟩ (fun i σ H' _ h => by obtain ⟨_, _, _, _, _, _, s, _⟩ := h; exact s _ _ hq) ?_ ?_
  · rintro i y σ H2 hy ⟨pp, zs, o3, o4, o5, rfl, s2, fp, e2, A2⟩
    obtain ⟨e, ee, he⟩ := hxs.get hy
    rw [List.getElem?_map] at ee
    cases hg : yd[i]? with
    | none => rw [hg] at ee; cases ee
    | some n =>
    rw [hg] at ee
    cases ee
    have hn := hG n (List.mem_of_getElem? hg)
    have hi : i < yd.length := (List.getElem?_eq_some_iff.mp hg).1
    have etk : yardWd t (yd.take (i + 1)) = yardWd t (yd.take i) ++ nmdWd n := by
      have e3 : yd[i] = n := (List.getElem?_eq_some_iff.mp hg).2
      unfold yardWd
      rw [List.take_succ_eq_append_getElem hi, List.map_append, List.flatten_append, e3]
      simp
    have hlt : zs.length ≤ 101 := by
      have := yardWd_many (t := t) (yd := yd.take i) (fun n h => hG n (List.mem_of_mem_take h))
      rw [List.length_take] at this
      rw [A2.length, List.length_map]
      omega
    have hrl := rulesWd_len hn.x.r
    have hx3 := hn.x.n
    obtain ⟨na, pv, rfl, hna, hpv⟩ := nmd_full he
    refine ⟨na, _, rfl, SqT.of (s2 _ _ hna), rfl, ?_⟩
    walk_at "rd"
    refine ⟨.inl ⟨rfl, _, SqL.of e2⟩, ?_⟩
    refine Pw.of (hpv.mono s2) hn.x hn.nm.1 fun p3 H3 f3 s3 e3 => ?_
    have n3 : p3 ≠ pp := fun z => by rw [z, e2] at f3; cases f3
    refine ⟨pp, _, _, rfl, rfl, s3 _ _ e2, by rw [sizeLine_eq]; omega, ?_⟩
    have s4 : Same H (upd H3 pp (.lst (zs ++ [V.ref p3]))) := (s2.trans s3).updN fp
    have A4 : AtAll (hid pp (upd H3 pp (.lst (zs ++ [V.ref p3])))) ((yardWd t (yd.take i) ++ [headWd n.nm n.x]).map wdP) (zs ++ [V.ref p3]) := by
      rw [hid_upd, List.map_append]
      exact (A2.mono (Same.hid s3)).append (AtAll.cons (wd_at (by rw [hid_ne n3]; exact e3)) AtAll.nil)
    have e4 : upd H3 pp (.lst (zs ++ [V.ref p3])) pp = some (.lst (zs ++ [V.ref p3])) := upd_same
    generalize upd H3 pp (.lst (zs ++ [V.ref p3])) = H4 at *
    have l4 : (zs ++ [V.ref p3]).length ≤ 102 := by rw [List.length_append]; simp only [List.length_cons, List.length_nil]; omega
    generalize zs ++ [V.ref p3] = zs4 at *
    refine tSeqO.of (fun σ' H' => ∃ zs5, σ' = [some (.int t), some (.ref qa), some (.ref pp), some (.str n.nm), some pv, some (onV n.on)] ∧ Same H H' ∧ H' pp = some (.lst zs5) ∧ zs5.length ≤ 103 ∧ AtAll (hid pp H') ((yardWd t (yd.take i) ++ [headWd n.nm n.x] ++ onWd n.on).map wdP) zs5) ?_ fun N hN => ?_
    · rintro _ H5 ⟨zs5, rfl, s5, e5, l5, A5⟩
      walk_at "rd"
      refine Rs.of (hpv.mono s5) hn.x fun p6 ws H6 f6 s6 e6 A6 => ?_
      have lw : ws.length ≤ 15 := by rw [A6.length, List.length_map]; omega
      refine ⟨pp, p6, _, _, rfl, rfl, s6 _ _ e5, e6, by rw [sizeLine_eq]; omega, fun p7 f7 => ?_⟩
      refine ⟨p7, _, _, _, _, rfl, s5.trans (s6.trans (same_new f7 _)), s5.free (s6.free f7), upd_same, ?_⟩
      rw [etk]
      have A7 := ((A5.mono hid_sub).mono s6).append A6
      rw [← List.map_append] at A7
      have : yardWd t (yd.take i) ++ nmdWd n = yardWd t (yd.take i) ++ [headWd n.nm n.x] ++ onWd n.on ++ rulesWd n.x.rss := by unfold nmdWd; simp
      rw [this]
      exact A7.mono (new_hid f7)
    · walk_at "rd"
      cases ho : n.on with
      | none =>
        rw [if_neg (by decide)]
        exact ⟨True.intro, hN _ _ ⟨zs4, by rw [ho], s4, e4, by omega, by rw [ho]; unfold onWd; simpa using A4⟩⟩
      | some z =>
        rw [if_pos (by rw [show onV (some z) = V.str z from rfl, decide_eq_false (fun z => nomatch z)]; rfl)]
        refine ⟨True.intro, .inl ⟨rfl, _, SqL.of e4⟩, by decide, fun p5 H5 f5 s5 e5 => ?_⟩
        have n5 : p5 ≠ pp := fun z => by rw [z, e4] at f5; cases f5
        refine ⟨pp, _, _, rfl, rfl, s5 _ _ e4, by rw [sizeLine_eq]; omega, hN _ _ ⟨zs4 ++ [V.ref p5], by rw [ho], (s4.trans s5).updN fp, upd_same, by rw [List.length_append]; simp only [List.length_cons, List.length_nil]; omega, ?_⟩⟩
        rw [hid_upd, ho]
        unfold onWd
        rw [List.map_append (l₁ := yardWd t (yd.take i) ++ [headWd n.nm n.x])]
        refine (A4.mono (Same.hid s5)).append (AtAll.cons (wd_at ?_) AtAll.nil)
        rw [hid_ne n5, e5]
        unfold stv
        simp only [List.map_cons, List.map_nil, tx_sg]
        rfl
  · rintro σ H2 ⟨pp, zs, o3, o4, o5, rfl, s2, fp, e2, A2⟩
    walk_at "rd"
    rw [hlx, List.take_length] at A2
    exact q pp zs H2 fp s2 e2 (A2.mono hid_sub)
theorem Yw.of {t : Int} {qa : Addr} {xs : List V} {yd : List Nmd} {H : Hp} {Q : VK} {E : XK} (ht : 0 ≤ t ∧ t ≤ 60) (hq : H qa = some (.lst xs)) (hxs : AtAll H (yd.map nmdP) xs) (hG : ∀ n ∈ yd, NmdG n) (h5 : yd.length ≤ 5) (q : ∀ p zs H', H p = none → Same H H' → H' p = some (.lst zs) → AtAll H' ((yardWd t yd).map wdP) zs → Q (.ref p) H') : spYw ([.int t, .ref qa] ++ []) H Q E := ⟨t, qa, xs, yd, rfl, ht, hq, hxs, hG, h5, q⟩
end
end K70
namespace K70
open PySem L2
local macro_rules | `(tactic| walk_at "rd") => `(tactic| simp only [L2.start, List.map_cons, List.map_nil, List.length_cons, List.length_nil, Nat.reduceAdd, Nat.reduceSub, List.replicate, List.cons_append, List.nil_append, List.append_nil,
  tSeq, tIfS, tRet, tRetN, tNext, tAsg, gName, tDrop, rd_var0, rd_varS, rd_gcons, rd_gnil, if_true, if_false, Bool.false_eq_true, Bool.not_true, Bool.not_false, rd_set0, rd_setS, rd_eqI, rd_neI, rd_eqS, rd_neS, rd_argI, rd_argB, rd_argII, rd_test, rd_int, rd_ii, tC, tOp, tUn, rI0, rI, rU, tTest, tAnd, tOr, tNot, tAndV, tOrV, tNotV, tIf, tCall, tCB, tCons, tNil, tB, tChain, tSl, tNoPart, tPart, gSub, tPar, tLst, tTup, tLstW, tTupW, tBM, tAug, tPar3, tAugS, ipI, tMaxD, tGT2, tFv, tJs, tJ1, tJ0, tTru])
section
variable {P : Program} {w : World} {K : PySem.W.Frag} {mg : Str → Option Value} {base : Heap} {f : Addr} {fd : FuncData} {k : Nat}
def spTx : Sp := fun vs H Q _ => ∃ (p : Addr) (xs : List V) (ws : List (List (List Nat))), vs = [.ref p] ∧ H p = some (.lst xs) ∧ AtAll H (ws.map wdP) xs ∧ (∀ w ∈ ws, WdG w) ∧ ws.length ≤ 101 ∧ ∀ H', Same H H' → Q (.str (tx (jn [10] (ws.map (jn [32]))))) H'
theorem wd_lst {H : Hp} {w : List (List Nat)} {v : V} (h : At H (wdP w) v) : ∃ q, v = .ref q ∧ H q = some (.lst ((w.map tx).map V.str)) := by
  unfold wdP At at h
  obtain ⟨q, xs, e, h1, h2⟩ := h
  refine ⟨q, e, ?_⟩
  rw [h1]
  congr 2
  clear h1 e
  induction w generalizing xs with
  | nil => unfold AtAll at h2; exact h2
  | cons z w ih =>
    obtain ⟨x, r, rfl, g1, g2⟩ := AtAll.uncons h2
    unfold At at g1
    rw [g1, ih _ g2]
    rfl
theorem sc_l_text : FnScope ["_law_rows"] ["_law_rows"] (defScope s_l_text) := ⟨rfl, rfl, rfl, by decide +kernel, rfl, by decide +kernel, by decide +kernel⟩
theorem wd_sum {w : List (List Nat)} (h : WdG w) : ((w.map tx).map (·.length)).sum + (w.map tx).length * (Str.ofString " ").length ≤ 16777216 := by
  have := StrLaws.sumLen_le (B := 20) (w.map tx) (fun y hy => by
    obtain ⟨x, hx, rfl⟩ := List.mem_map.mp hy
    rw [tx_len]
    exact h.2 x hx)
  rw [List.length_map] at this ⊢
  have := h.1
  rw [show (Str.ofString " ").length = 1 from rfl]
  omega
theorem ok_l_text (F : Fun K "_law_text" "_law_text" s_l_text f fd) (B : Bi mg) : FnOk P w K mg base CX0 (k + 1) f fd ["_law_rows"] spTx := by
  refine F.ok sc_l_text (by rintro vs H Q E ⟨p, xs, ws, rfl, _⟩; rfl) (fun cdv A outer s H vs Q E hr h => ?_)
  obtain ⟨p, xs, ws, rfl, hp, hxs, hG, hn, q⟩ := h
  have ND := sc_l_text.nd
  refine ⟨_, (pss_one (ps_ret (pe_bm PySem.F.plainAttrs_str PySem.F.slot_str_join PySem.F.type_str_join mt_join pe_str (pa_c (pe_comp (N' := ["_law_words"]) (js := []) rfl (pi_list (pv 0)) CSc.mk0 rfl (by decide) rfl (fun fp s' H' => (pe_bmK (K := K) rfl PySem.F.plainAttrs_str PySem.F.slot_str_join PySem.F.type_str_join mt_join pe_str (pa_c (pv 0) pa_nil)))) pa_nil)))), ?_⟩
  walk_at "rd"
  have hlx : xs.length = ws.length := by rw [hxs.length, List.length_map]
  refine ⟨rfl, ?_⟩
  refine comp_LS (zs := ws.map fun w => tx (jn [32] w)) (fun R hR => ?_) hp (by rw [sizeLine_eq]; omega) (by rw [List.length_map, hlx]) (fun j y z H' hy hz s' R hR => ?_) fun acc H5 s5 fa e5 => ?_
  · walk_at "rd"; exact hR
  · obtain ⟨e, ee, he⟩ := hxs.get hy
    rw [List.getElem?_map] at ee hz
    cases hg : ws[j]? with
    | none => rw [hg] at ee; cases ee
    | some wd =>
    rw [hg] at ee hz
    cases ee
    cases hz
    obtain ⟨q, rfl, hq⟩ := wd_lst (he.mono s')
    walk_at "rd"
    refine ⟨rfl, _, q, wd.map tx, rfl, rfl, hq, wd_sum (hG wd (List.mem_of_getElem? hg)), ?_⟩
    rw [show Str.ofString " " = tx [32] from rfl, join_tx]
    exact hR _ (Same.refl _)
  · refine ⟨_, acc, _, rfl, rfl, e5, ?_, ?_⟩
    · have := StrLaws.sumLen_le (B := 420) (ws.map fun w => tx (jn [32] w)) (fun y hy => by
        obtain ⟨x, hx, rfl⟩ := List.mem_map.mp hy
        rw [tx_len]
        have h1 := jn_len [32] (B := 20) x (hG x hx).2
        have h2 : x.length * (20 + ([32] : List Nat).length) ≤ 20 * 21 := Nat.mul_le_mul (hG x hx).1 (by decide)
        omega)
      rw [List.length_map] at this ⊢
      rw [show (Str.ofString "\n").length = 1 from rfl]
      omega
    · have := q _ s5
      rw [← join_tx, List.map_map] at this
      exact this
theorem Tx.of {p : Addr} {xs : List V} {ws : List (List (List Nat))} {H : Hp} {Q : VK} {E : XK} (hp : H p = some (.lst xs)) (hxs : AtAll H (ws.map wdP) xs) (hG : ∀ w ∈ ws, WdG w) (hn : ws.length ≤ 101) (q : ∀ H', Same H H' → Q (.str (tx (jn [10] (ws.map (jn [32]))))) H') : spTx ([.ref p] ++ []) H Q E := ⟨p, xs, ws, rfl, hp, hxs, hG, hn, q⟩
/-! ### the law's own look at texts -/
def spSs : Sp := fun vs H Q _ => ∃ z : Str, vs = [.str z, .str z] ∧ ∀ H', Same H H' → Q (.bl true) H'
def spSl : Sp := fun vs H Q _ => ∃ (a b : Addr) (l : List Str), vs = [.ref a, .ref b] ∧ H a = some (.lst (l.map V.str)) ∧ H b = some (.lst (l.map V.str)) ∧ l.length ≤ 1000 ∧ ∀ H', Same H H' → Q (.bl true) H'
theorem sc_l_same : FnScope ["_law_found", "_law_due"] ["_law_found", "_law_due"] (defScope s_l_same) := ⟨rfl, rfl, rfl, by decide +kernel, rfl, by decide +kernel, by decide +kernel⟩
def spNo : Sp := fun _ _ _ _ => False
theorem ok_l_same0 (F : Fun K "_law_same" "_law_same" s_l_same f fd) : FnOk P w K mg base CX0 (k + 1) f fd ["_law_found", "_law_due"] spNo := by
  refine F.ok sc_l_same (fun vs H Q E h => False.elim h) (fun cdv A outer s H vs Q E hr h => False.elim h)
theorem bools_all {n : Nat} : (List.replicate n true).all id = true := by
  rw [List.all_eq_true]
  intro x hx
  rw [List.eq_of_mem_replicate hx]
  rfl
theorem bools_back {G : Hp} : ∀ {n : Nat} {xs : List V}, AtAll G (List.replicate n (PyData.bool true)) xs → xs = (List.replicate n true).map V.bl
  | 0, xs, h => by unfold AtAll at h; exact h
  | n + 1, xs, h => by
    rw [List.replicate_succ] at h
    obtain ⟨x, r, rfl, h1, h2⟩ := AtAll.uncons h
    unfold At at h1
    rw [h1, bools_back h2]; rfl
theorem ok_l_sameS (F : Fun K "_law_same" "_law_same" s_l_same f fd) (B : Bi mg) (c_l_same : Ct P w K mg base k "_law_same" ["_law_found", "_law_due"] spNo) : FnOk P w K mg base CX0 (k + 1) f fd ["_law_found", "_law_due"] spSs := by
  refine F.ok sc_l_same (by rintro vs H Q E ⟨i, rfl, _⟩; rfl) (fun cdv A outer s H vs Q E hr h => ?_)
  obtain ⟨z, rfl, q⟩ := h
  have ND := sc_l_same.nd
  refine ⟨_, (pss_cons (ps_if (pt_val (pb isi_lt B.isinstance bt_isinstance (pa_c (pv 1) (pa_c (pe_tupW (pa_c (pty (by rfl) B.list bt_list) (pa_c (pty (by rfl) B.tuple bt_tuple) pa_nil))) pa_nil)))) (pss_cons (ps_if (PW.pt (pw_or (pt_cmpR op_ne (pb isi_lst B.isinstance bt_isinstance (pa_c (pv 0) (pa_c (pty (by rfl) B.list bt_list) pa_nil))) (pb isi_lst B.isinstance bt_isinstance (pa_c (pv 1) (pa_c (pty (by rfl) B.list bt_list) pa_nil))) (nomark _)) (pw_or1 (pt_cmpR op_ne (pb isi_tup B.isinstance bt_isinstance (pa_c (pv 0) (pa_c (pty (by rfl) B.tuple bt_tuple) pa_nil))) (pb isi_tup B.isinstance bt_isinstance (pa_c (pv 1) (pa_c (pty (by rfl) B.tuple bt_tuple) pa_nil))) (nomark _))))) (pss_one (ps_ret pe_bl)) pss_nil) (pss_one (ps_ret (pe_and (pe_cmpR op_eq (pb (call_lenK (K := K) rfl) B.len bt_len (pa_c (pv 0) pa_nil)) (pb (call_lenK (K := K) rfl) B.len bt_len (pa_c (pv 1) pa_nil)) (nomark _)) (pe_one (pb (call_allB rfl) B.all bt_all (pa_c (pe_compG (nt := 2) (N' := ["_law_one", "_law_other"]) (js := []) rfl (pi_zipL (K := K) rfl B.zip (pa_c (pv 0) (pa_c (pv 1) pa_nil))) CScG.of (fun fp s' H' => (pg_tupK (K := K) (n := 2) rfl rfl (pgs_cons (pg_name (i := 0) (by show List.Nodup (["_law_one", "_law_other"] : List Str); decide) rfl (.inl (lookup_relabel_local rfl)) (.inr (lookup_relabel_local rfl))) (pgs_cons (pg_name (i := 1) (by show List.Nodup (["_law_one", "_law_other"] : List Str); decide) rfl (.inl (lookup_relabel_local rfl)) (.inr (lookup_relabel_local rfl))) pgs_nil)))) (fun fp s' H' => ifs_nil) (fun fp s' H' => (pf c_l_same hr (pa_c (pv 0) (pa_c (pv 1) pa_nil))))) pa_nil))))))) pss_nil) (pss_cons (ps_if (pt_cmpR op_isN (pv 1) pe_non (nomark _)) (pss_one (ps_ret (pe_cmpR op_isN (pv 0) pe_non (nomark _)))) pss_nil) (pss_cons (ps_if (pt_val (pb isi_str B.isinstance bt_isinstance (pa_c (pv 1) (pa_c (pty (by rfl) B.str bt_str) pa_nil)))) (pss_one (ps_ret (pe_and (pb isi_str B.isinstance bt_isinstance (pa_c (pv 0) (pa_c (pty (by rfl) B.str bt_str) pa_nil))) (pe_one (pe_cmpR op_eq (pv 0) (pv 1) (nomark _)))))) pss_nil) (pss_one (ps_ret (pe_and (pb isi_int B.isinstance bt_isinstance (pa_c (pv 0) (pa_c (pty (by rfl) B.int bt_int) pa_nil))) (pe_and (pe_cmpR op_eq (pb isi_bool B.isinstance bt_isinstance (pa_c (pv 0) (pa_c (pty (by rfl) B.bool bt_bool) pa_nil))) (pb isi_bool B.isinstance bt_isinstance (pa_c (pv 1) (pa_c (pty (by rfl) B.bool bt_bool) pa_nil))) (nomark _)) (pe_one (pe_cmpR op_eq (pv 0) (pv 1) (nomark _)))))))))), ?_⟩
  walk_at "rd"
  refine ⟨(by decide), fun pt H1 f1 s1 e1 => ?_⟩
  have hv1 : At H1 (.str z) (V.str z) := At.str _
  refine ⟨_, .str z, pt, rfl, hv1, e1, ?_⟩
  rw [if_neg (by exact fun z => by cases z)]
  refine ⟨trivial, ?_⟩
  rw [if_neg (by rw [decide_eq_true_eq]; exact fun z => by cases z)]
  refine Isi.of hv1 ⟨_, rfl, ?_⟩
  rw [if_pos (by rfl)]
  refine Isi.of hv1 ⟨_, rfl, ?_⟩
  rw [if_pos (by rfl)]
  try walk_at "rd"
  first | exact q _ s1 | (rw [decide_eq_true rfl]; exact q _ s1)
theorem Ss.of {z : Str} {H : Hp} {Q : VK} {E : XK} (q : ∀ H', Same H H' → Q (.bl true) H') : spSs ([.str z, .str z] ++ []) H Q E := ⟨z, rfl, q⟩
theorem ok_l_sameL (F : Fun K "_law_same" "_law_same" s_l_same f fd) (B : Bi mg) (c_l_same : Ct P w K mg base k "_law_same" ["_law_found", "_law_due"] spSs) : FnOk P w K mg base CX0 (k + 1) f fd ["_law_found", "_law_due"] spSl := by
  refine F.ok sc_l_same (by rintro vs H Q E ⟨a, b, l, rfl, _⟩; rfl) (fun cdv A outer s H vs Q E hr h => ?_)
  obtain ⟨a, b, l, rfl, ha, hb, hn, q⟩ := h
  have ND := sc_l_same.nd
  refine ⟨_, (pss_cons (ps_if (pt_val (pb isi_lt B.isinstance bt_isinstance (pa_c (pv 1) (pa_c (pe_tupW (pa_c (pty (by rfl) B.list bt_list) (pa_c (pty (by rfl) B.tuple bt_tuple) pa_nil))) pa_nil)))) (pss_cons (ps_if (PW.pt (pw_or (pt_cmpR op_ne (pb isi_lst B.isinstance bt_isinstance (pa_c (pv 0) (pa_c (pty (by rfl) B.list bt_list) pa_nil))) (pb isi_lst B.isinstance bt_isinstance (pa_c (pv 1) (pa_c (pty (by rfl) B.list bt_list) pa_nil))) (nomark _)) (pw_or1 (pt_cmpR op_ne (pb isi_tup B.isinstance bt_isinstance (pa_c (pv 0) (pa_c (pty (by rfl) B.tuple bt_tuple) pa_nil))) (pb isi_tup B.isinstance bt_isinstance (pa_c (pv 1) (pa_c (pty (by rfl) B.tuple bt_tuple) pa_nil))) (nomark _))))) (pss_one (ps_ret pe_bl)) pss_nil) (pss_one (ps_ret (pe_and (pe_cmpR op_eq (pb (call_lenK (K := K) rfl) B.len bt_len (pa_c (pv 0) pa_nil)) (pb (call_lenK (K := K) rfl) B.len bt_len (pa_c (pv 1) pa_nil)) (nomark _)) (pe_one (pb (call_allB rfl) B.all bt_all (pa_c (pe_compG (nt := 2) (N' := ["_law_one", "_law_other"]) (js := []) rfl (pi_zipL (K := K) rfl B.zip (pa_c (pv 0) (pa_c (pv 1) pa_nil))) CScG.of (fun fp s' H' => (pg_tupK (K := K) (n := 2) rfl rfl (pgs_cons (pg_name (i := 0) (by show List.Nodup (["_law_one", "_law_other"] : List Str); decide) rfl (.inl (lookup_relabel_local rfl)) (.inr (lookup_relabel_local rfl))) (pgs_cons (pg_name (i := 1) (by show List.Nodup (["_law_one", "_law_other"] : List Str); decide) rfl (.inl (lookup_relabel_local rfl)) (.inr (lookup_relabel_local rfl))) pgs_nil)))) (fun fp s' H' => ifs_nil) (fun fp s' H' => (pf c_l_same hr (pa_c (pv 0) (pa_c (pv 1) pa_nil))))) pa_nil))))))) pss_nil) (pss_cons (ps_if (pt_cmpR op_isN (pv 1) pe_non (nomark _)) (pss_one (ps_ret (pe_cmpR op_isN (pv 0) pe_non (nomark _)))) pss_nil) (pss_cons (ps_if (pt_val (pb isi_str B.isinstance bt_isinstance (pa_c (pv 1) (pa_c (pty (by rfl) B.str bt_str) pa_nil)))) (pss_one (ps_ret (pe_and (pb isi_str B.isinstance bt_isinstance (pa_c (pv 0) (pa_c (pty (by rfl) B.str bt_str) pa_nil))) (pe_one (pe_cmpR op_eq (pv 0) (pv 1) (nomark _)))))) pss_nil) (pss_one (ps_ret (pe_and (pb isi_int B.isinstance bt_isinstance (pa_c (pv 0) (pa_c (pty (by rfl) B.int bt_int) pa_nil))) (pe_and (pe_cmpR op_eq (pb isi_bool B.isinstance bt_isinstance (pa_c (pv 0) (pa_c (pty (by rfl) B.bool bt_bool) pa_nil))) (pb isi_bool B.isinstance bt_isinstance (pa_c (pv 1) (pa_c (pty (by rfl) B.bool bt_bool) pa_nil))) (nomark _)) (pe_one (pe_cmpR op_eq (pv 0) (pv 1) (nomark _)))))))))), ?_⟩
  walk_at "rd"
  refine ⟨(by decide), fun pt H1 f1 s1 e1 => ?_⟩
  have ha1 := s1 _ _ ha
  have hb1 := s1 _ _ hb
  have ats : ∀ l : List Str, AtAll H1 (l.map .str) (l.map V.str) := fun l => by
    induction l with
    | nil => exact AtAll.nil
    | cons z l ih => exact AtAll.cons (At.str _) ih
  have hv1 : At H1 (.list (l.map .str)) (V.ref a) := At.lst ha1 (ats _)
  have hu1 : At H1 (.list (l.map .str)) (V.ref b) := At.lst hb1 (ats _)
  refine ⟨_, .list (l.map .str), pt, rfl, hu1, e1, ?_⟩
  rw [if_pos (by rfl)]
  refine Isi.of hv1 (Isi.of hu1 ⟨rfl, _, rfl, ?_⟩)
  rw [if_neg (by show ¬ ((!decide (V.bl true = V.bl true)) = true); decide)]
  refine Isi.of hv1 (Isi.of hu1 ⟨rfl, _, rfl, ?_⟩)
  rw [if_neg (by show ¬ ((!decide (V.bl false = V.bl false)) = true); decide)]
  refine ⟨a, _, rfl, .inl (SqL.of ha1), b, _, rfl, .inl (SqL.of hb1), ?_⟩
  refine ⟨rfl, _, rfl, ?_⟩
  rw [if_pos (by rw [decide_eq_true_eq])]
  refine comp_zipL (es := List.replicate l.length (PyData.bool true)) (fun R hR => ?_) ha1 hb1 (by simp) (by simp) (by rw [List.length_replicate]; exact Nat.le_of_lt (small1000 (by omega))) (noLAll_iff.mpr fun d hd => by rw [List.eq_of_mem_replicate hd]; rfl) (fun i x y e H' hx hy he s' R hR => ?_) fun acc zs H' s' fa hl hA => ?_
  · walk_at "rd"; exact hR
  · rw [hx] at hy
    cases hy
    rw [List.getElem?_map] at hx
    cases hg : l[i]? with
    | none => rw [hg] at hx; cases hx
    | some z =>
    rw [hg] at hx
    cases hx
    have ee : e = .bool true := List.eq_of_mem_replicate (List.mem_of_getElem? he)
    walk_at "rd"
    refine Ss.of fun H'' s'' => hR _ _ s'' ?_
    rw [ee]
    exact At.bool _
  · cases bools_back hA
    refine ⟨acc, _, rfl, hl, ?_⟩
    rw [bools_all]
    exact q _ (s1.trans s')
theorem Sl.of {a b : Addr} {l : List Str} {H : Hp} {Q : VK} {E : XK} (ha : H a = some (.lst (l.map V.str))) (hb : H b = some (.lst (l.map V.str))) (hn : l.length ≤ 1000) (q : ∀ H', Same H H' → Q (.bl true) H') : spSl ([.ref a, .ref b] ++ []) H Q E := ⟨a, b, l, rfl, ha, hb, hn, q⟩
end
end K70
namespace K70
open PySem L2
local macro_rules | `(tactic| walk_at "rd") => `(tactic| simp only [L2.start, List.map_cons, List.map_nil, List.length_cons, List.length_nil, Nat.reduceAdd, Nat.reduceSub, List.replicate, List.cons_append, List.nil_append, List.append_nil,
  tSeq, tIfS, tRet, tRetN, tNext, tAsg, gName, tDrop, rd_var0, rd_varS, rd_gcons, rd_gnil, if_true, if_false, Bool.false_eq_true, Bool.not_true, Bool.not_false, rd_set0, rd_setS, rd_eqI, rd_neI, rd_eqS, rd_neS, rd_argI, rd_argB, rd_argII, rd_test, rd_int, rd_ii, tC, tOp, tUn, rI0, rI, rU, tTest, tAnd, tOr, tNot, tAndV, tOrV, tNotV, tIf, tCall, tCB, tCons, tNil, tB, tChain, tSl, tNoPart, tPart, gSub, tPar, tLst, tTup, tLstW, tTupW, tBM, tAug, tPar3, tAugS, ipI, tMaxD, tGT2, tFv, tJs, tJ1, tJ0, tTru])
section
variable {P : Program} {w : World} {K : PySem.W.Frag} {mg : Str → Option Value} {base : Heap} {f : Addr} {fd : FuncData} {k : Nat}
def spRow : Sp := fun vs H Q _ => ∃ (a : Addr) (n : Nat), vs = [.ref a] ∧ Tp H a n ∧ n ≤ 800000000 ∧ ∀ v r H', RowG r → At (hid a H') (rowP r) v → Tp H' a (n + 12) → SX a H H' → Q v H'
theorem Row.of {a : Addr} {n : Nat} {H : Hp} {Q : VK} {E : XK} (t : Tp H a n) (hn : n ≤ 800000000) (q : ∀ v r H', RowG r → At (hid a H') (rowP r) v → Tp H' a (n + 12) → SX a H H' → Q v H') : spRow ([.ref a] ++ []) H Q E := ⟨a, n, rfl, t, hn, q⟩
theorem sc_l_row : FnScope ["_law_tape_here", "_law_sign", "_law_what", "_law_span", "_law_number", "_law_step"] ["_law_tape_here"] (defScope s_l_row) := ⟨rfl, rfl, rfl, by decide +kernel, rfl, by decide +kernel, by decide +kernel⟩
theorem ok_l_row (F : Fun K "_law_row" "_law_row" s_l_row f fd) (B : Bi mg) (c_l_draw : Ct P w K mg base k "_law_draw" ["_law_tape_here", "_law_many"] spDraw) (c_l_units : Ct P w K mg base k "_law_units" ["_law_tape_here"] spUnits) : FnOk P w K mg base CX0 (k + 1) f fd ["_law_tape_here"] spRow := by
  refine F.ok sc_l_row (by rintro vs H Q E ⟨a, n, rfl, _⟩; rfl) (fun cdv A outer s H vs Q E hr h => ?_)
  obtain ⟨a, n, rfl, tp, hn, q⟩ := h
  have ND := sc_l_row.nd
  refine ⟨_, (pss_cons (ps_set (i := 1) ND rfl (by first | exact Or.inl rfl | exact Or.inr rfl) (pe_ix ix_obj (pe_lstW (pa_c pe_str (pa_c pe_str (pa_c pe_str pa_nil)))) (pf c_l_draw hr (pa_c (pv 0) (pa_c pe_int pa_nil))) (fun _ _ => rfl))) (pss_cons (ps_par (i := 2) (j := 3) rfl ND rfl rfl (by decide) rfl rfl (pa_c (pe_ix ix_obj (pe_lstW (pa_c pe_str (pa_c pe_str (pa_c pe_str pa_nil)))) (pf c_l_draw hr (pa_c (pv 0) (pa_c pe_int pa_nil))) (fun _ _ => rfl)) (pa_c (pe_op op_add pe_int (pf c_l_draw hr (pa_c (pv 0) (pa_c pe_int pa_nil)))) pa_nil)) (by rfl)) (pss_cons (ps_set (i := 4) ND rfl (by first | exact Or.inl rfl | exact Or.inr rfl) (pf c_l_units hr (pa_c (pv 0) pa_nil))) (pss_cons (ps_if (pt_cmpR op_eq (pv 1) pe_str (nomark _)) (pss_one (ps_ret (pe_tupW (pa_c (pv 2) (pa_c (pv 3) (pa_c (pv 1) (pa_c (pb (call_max2 rfl) B.max bt_max (pa_c pe_int (pa_c (pv 4) pa_nil))) (pa_c pe_int pa_nil)))))))) pss_nil) (pss_cons (ps_set (i := 5) ND rfl (by first | exact Or.inl rfl | exact Or.inr rfl) (pe_op op_add pe_int (pf c_l_draw hr (pa_c (pv 0) (pa_c pe_int pa_nil))))) (pss_one (ps_ret (pe_tupW (pa_c (pv 2) (pa_c (pv 3) (pa_c (pv 1) (pa_c (pv 4) (pa_c (pe_ix ix_obj (pe_lstW (pa_c (pv 5) (pa_c (pe_op op_sub pe_int (pv 5)) pa_nil))) (pf c_l_draw hr (pa_c (pv 0) (pa_c pe_int pa_nil))) (fun _ _ => rfl)) pa_nil))))))))))))), ?_⟩
  walk_at "rd"
  refine ⟨(by decide), fun p1 H1 f1 s1 e1 => ?_⟩
  refine Draw.of (tp.same s1) (by omega) (by decide) (by decide) fun y1 H2 l2 u2 t2 s2 => ?_
  have n1 : p1 ≠ a := tp.ne f1
  obtain ⟨g, hg, eg⟩ := pick_strs (ts := ["over", "under", "each"]) l2 u2
  refine Ix.lst (s2.get n1 e1) eg ?_
  refine ⟨(by decide), fun p3 H3 f3 s3 e3 => ?_⟩
  refine Draw.of (t2.same s3) (by omega) (by decide) (by decide) fun y4 H4 l4 u4 t4 s4 => ?_
  have n3 : p3 ≠ a := t2.ne f3
  obtain ⟨w, hw, ew⟩ := pick_strs (ts := ["come", "done", "wait"]) l4 u4
  refine Ix.lst (s4.get n3 e3) ew ?_
  refine Draw.of t4 (by omega) (by decide) (by decide) fun y5 H5 l5 u5 t5 s5 => ?_
  walk_at "rd"
  try refine ⟨_, _, rfl, ?_⟩
  refine Units.of t5 (by omega) fun num H6 l6 u6 t6 s6 => ?_
  have sx : SX a H H6 := (SX.of s1).trans (s2.trans ((SX.of s3).trans (s4.trans (s5.trans s6))))
  have fin : ∀ (sp : Nat) (nn tt : Int) (H8 : Hp) (m : Nat), (1 ≤ sp ∧ sp ≤ 4) → Tp H8 a m → m ≤ n + 12 → SX a H H8 → (0 ≤ nn ∧ nn ≤ 1000000000000) → (g = "each" → 1 ≤ nn) → (g = "each" → tt = 0) → (g ≠ "each" → -12 ≤ tt ∧ tt ≤ 12 ∧ tt ≠ 0) → ∀ p H', H8 p = none → Same H8 H' → H' p = some (.tup [.str w, .int sp, .str g, .int nn, .int tt]) → Q (.ref p) H' := fun sp nn tt H8 m hsp t8 hm s8 hnn hge hz ht p H' fp sp' ep => by
    have pa : p ≠ a := t8.ne fp
    refine q _ ⟨w, sp, g, nn, tt⟩ H' ⟨⟨hw, hsp, hnn, hge⟩, hg, hz, ht⟩ (At.tup (by rw [hid_ne pa]; exact ep) ?_) ((t8.same sp').mono hm) (s8.trans (SX.of sp'))
    exact AtAll.cons (At.str _) (AtAll.cons (At.int _) (AtAll.cons (At.str _) (AtAll.cons (At.int _) (AtAll.cons (At.int _) AtAll.nil))))
  obtain ⟨sp, hsp⟩ : ∃ sp : Nat, 1 + y5 = (sp : Int) := ⟨(1 + y5).toNat, by omega⟩
  try rw [hsp]
  walk_at "rd"
  refine and_if (fun c1 => ?_) (fun c1 => ?_)
  · exact ⟨(by decide), fin _ _ _ H6 _ (by omega) t6 (by omega) sx (by split <;> omega) (fun _ => by split <;> omega) (fun _ => rfl) (fun z => absurd (of_decide_eq_true c1) z)⟩
  · have c1' := of_decide_eq_false c1
    refine Draw.of t6 (by omega) (by decide) (by decide) fun y8 H8 l8 u8 t8 s8 => ?_
    walk_at "rd"
    refine ⟨(by decide), fun p9 H9 f9 s9 e9 => ?_⟩
    have n9 := t8.ne f9
    refine Draw.of (t8.same s9) (by omega) (by decide) (by decide) fun y10 H10 l10 u10 t10 s10 => ?_
    obtain ⟨x, hx, ex⟩ := pick_ints (ts := [1 + y8, 0 - (1 + y8)]) l10 u10
    refine Ix.lst (s10.get n9 e9) ex ?_
    have hx' : -12 ≤ x ∧ x ≤ 12 ∧ x ≠ 0 := by
      simp only [List.mem_cons, List.not_mem_nil, or_false] at hx
      rcases hx with rfl | rfl <;> omega
    exact ⟨(by decide), fin _ _ _ H10 _ (by omega) t10 (by omega) (sx.trans (s8.trans ((SX.of s9).trans s10))) ⟨l6, u6⟩ (fun z => absurd z c1') (fun z => absurd z c1') (fun _ => hx')⟩
theorem row_noL (r : RowT) : noL (rowP r) = true := rfl
theorem rule_noL (rs : List RowT) : noL (ruleP rs) = true := by
  show noLAll (rs.map rowP) = true
  exact noLAll_iff.mpr fun d hd => by obtain ⟨r, _, rfl⟩ := List.mem_map.mp hd; rfl
theorem sxFree {a p : Addr} {H H' : Hp} (s : SX a H H') (n : p ≠ a) (f : H' p = none) : H p = none := by
  cases h : H p with
  | none => rfl
  | some o => rw [s.get n h] at f; cases f
def spPost : Sp := fun vs H Q _ => ∃ (a : Addr) (n : Nat), vs = [.ref a, .int 12] ∧ Tp H a n ∧ n ≤ 100000000 ∧ ∀ p x H', PsL x → At (hid a H') (pstD x) (.ref p) → Tp H' a (n + 400) → SX a H H' → Q (.ref p) H'
theorem sc_l_post : FnScope ["_law_tape_here", "_law_least", "_law_pace", "_law_few", "_law_hands", "_law_rules", "_law_k", "_law_rests"] ["_law_tape_here", "_law_least"] (defScope s_l_post) := ⟨rfl, rfl, rfl, by decide +kernel, rfl, by decide +kernel, by decide +kernel⟩
theorem ok_l_post (F : Fun K "_law_post" "_law_post" s_l_post f fd) (B : Bi mg) (c_l_draw : Ct P w K mg base k "_law_draw" ["_law_tape_here", "_law_many"] spDraw) (c_l_units : Ct P w K mg base k "_law_units" ["_law_tape_here"] spUnits) (c_l_row : Ct P w K mg base k "_law_row" ["_law_tape_here"] spRow) : FnOk P w K mg base CX0 (k + 1) f fd ["_law_tape_here", "_law_least"] spPost := by
  refine F.ok sc_l_post (by rintro vs H Q E ⟨a, n, rfl, _⟩; rfl) (fun cdv A outer s H vs Q E hr h => ?_)
  obtain ⟨a, n, rfl, tp, hn, q⟩ := h
  have ND := sc_l_post.nd
  refine ⟨_, (pss_cons (ps_set (i := 2) ND rfl (by first | exact Or.inl rfl | exact Or.inr rfl) (pe_ix ix_obj (pe_lstW (pa_c pe_int (pa_c (pe_op op_add pe_int (pf c_l_draw hr (pa_c (pv 0) (pa_c pe_int pa_nil)))) (pa_c (pe_op op_sub (pe_op op_pow pe_int pe_int) (pf c_l_draw hr (pa_c (pv 0) (pa_c pe_int pa_nil)))) pa_nil)))) (pf c_l_draw hr (pa_c (pv 0) (pa_c pe_int pa_nil))) (fun _ _ => rfl))) (pss_cons (ps_set (i := 3) ND rfl (by first | exact Or.inl rfl | exact Or.inr rfl) (pf c_l_draw hr (pa_c (pv 0) (pa_c (pe_op op_add (pv 1) pe_int) pa_nil)))) (pss_cons (ps_set (i := 4) ND rfl (by first | exact Or.inl rfl | exact Or.inr rfl) (pe_tupW (pa_c (pv 3) (pa_c (pe_op op_add (pv 3) (pf c_l_draw hr (pa_c (pv 0) (pa_c (pe_op op_sub pe_int (pv 3)) pa_nil)))) pa_nil)))) (pss_cons (ps_set (i := 5) ND rfl (by first | exact Or.inl rfl | exact Or.inr rfl) (pe_lstW pa_nil)) (pss_cons (ps_for PassesOwn.never rfl (pi_range1 (by rfl) B.range (pa_c (pf c_l_draw hr (pa_c (pv 0) (pa_c pe_int pa_nil))) pa_nil)) (pg_name (i := 6) ND rfl (by first | exact Or.inl rfl | exact Or.inr rfl)) (pss_one (ps_expr (pe_bm PySem.F.plainAttrs_list PySem.F.slot_list_append PySem.F.type_list_append mt_append (pv 5) (pa_c (pt (call_tupL) B.tuple bt_tuple (pa_c (pe_comp (N' := ["_law_j", "_law_tape_here"]) (js := [0]) rfl (pi_range1 (by rfl) B.range (pa_c (pe_op op_add pe_int (pf c_l_draw hr (pa_c (pv 0) (pa_c pe_int pa_nil)))) pa_nil)) CSc.mk1 rfl (by decide) rfl (fun fp s' H' => (pf c_l_row hr (pa_c (pv 1) pa_nil)))) pa_nil)) pa_nil))))) (pss_cons (ps_set (i := 7) ND rfl (by first | exact Or.inl rfl | exact Or.inr rfl) (pe_tupW (pa_c (pf c_l_draw hr (pa_c (pv 0) (pa_c pe_int pa_nil))) (pa_c (pf c_l_draw hr (pa_c (pv 0) (pa_c pe_int pa_nil))) pa_nil)))) (pss_one (ps_ret (pe_tupW (pa_c (pv 2) (pa_c (pf c_l_units hr (pa_c (pv 0) pa_nil)) (pa_c (pv 4) (pa_c (pf c_l_draw hr (pa_c (pv 0) (pa_c pe_int pa_nil))) (pa_c (pe_op op_add pe_int (pf c_l_draw hr (pa_c (pv 0) (pa_c pe_int pa_nil)))) (pa_c (pv 7) (pa_c (pt (call_tupL) B.tuple bt_tuple (pa_c (pv 5) pa_nil)) pa_nil)))))))))))))))), ?_⟩
  have e6 : (10 : Int) ^ Int.toNat 6 = 1000000 := by decide
  walk_at "rd"
  refine Draw.of tp (by omega) (by decide) (by decide) fun y1 H1 l1 u1 t1 s1 => ?_
  walk_at "rd"
  refine ⟨⟨by decide, by decide, by decide⟩, Draw.of t1 (by omega) (by decide) (by decide) fun y2 H2 l2 u2 t2 s2 => ⟨_, _, rfl, rfl, (by decide), fun p3 H3 f3 s3 e3 => ?_⟩⟩
  rw [e6] at e3
  have n3 := t2.ne f3
  refine Draw.of (t2.same s3) (by omega) (by decide) (by decide) fun y4 H4 l4 u4 t4 s4 => ?_
  obtain ⟨pc, hpc, epc⟩ := pick_ints (ts := [1, 1 + y1, 1000000 - y2]) l4 u4
  have hpc' : 1 ≤ pc ∧ pc ≤ 1000000 := by
    simp only [List.mem_cons, List.not_mem_nil, or_false] at hpc
    rcases hpc with rfl | rfl | rfl <;> omega
  refine Ix.lst (s4.get n3 e3) epc ?_
  clear hpc epc l4 u4
  refine Draw.of t4 (by omega) (by decide) (by decide) fun y5 H5 l5 u5 t5 s5 => ⟨_, _, rfl, rfl, ?_⟩
  refine Draw.of t5 (by omega) (by omega) (by omega) fun y6 H6 l6 u6 t6 s6 => ⟨_, _, rfl, rfl, (by decide), fun p7 H7 f7 s7 e7 => ⟨by decide, fun p H8 f8 s8 e8 => ?_⟩⟩
  have n7 := t6.ne f7
  have t7 := t6.same s7
  have pa := t7.ne f8
  have t8 := t7.same s8
  have x8 : SX a H H8 := s1.trans (s2.trans ((SX.of s3).trans (s4.trans (s5.trans (s6.trans ((SX.of s7).trans (SX.of s8)))))))
  have fHp : H p = none := sxFree (s1.trans (s2.trans ((SX.of s3).trans (s4.trans (s5.trans (s6.trans (SX.of s7))))))) pa f8
  have n7p : p7 ≠ p := fun z => by rw [← z, e7] at f8; cases f8
  have e78 := s8 _ _ e7
  rw [tFor_rng]
  walk_at "rd"
  refine Draw.of t8 (by omega) (by decide) (by decide) fun m H9 l9 u9 t9 s9 => ?_
  refine FK.of (n := m.toNat) (by omega) (by omega) (fun i σ H' => ∃ (rss : List (List RowT)) (ys : List V) (o3 : Option V), σ = [some (.ref a), some (.int 12), some (.int pc), some (.int y5), some (.ref p7), some (.ref p), o3, none] ∧ rss.length = i ∧ ys.length = i ∧ (∀ rs ∈ rss, RulG rs) ∧ H' p = some (.lst ys) ∧ AtAll (hid p (hid a H')) (rss.map ruleP) ys ∧ Tp H' a (n + 7 + 60 * i) ∧ H' p7 = some (.tup [.int y5, .int (y5 + y6)]) ∧ SX a H H')
    ⟨[], [], _, rfl, rfl, rfl, fun d h => by simp at h, s9.get pa e8, AtAll.nil, t9.mono (by omega), s9.get n7 e78, x8.trans s9⟩ ?_ ?_
  · rintro i σ H3 hi ⟨rss, ys, o3, rfl, ld, ly, od, h3, a3, t3, e73, s3⟩
    walk_at "rd"
    refine ⟨.inl ⟨rfl, _, SqL.of h3⟩, ?_⟩
    rw [tComp_rng]
    walk_at "rd"
    refine Draw.of t3 (by omega) (by decide) (by decide) fun r H4 l4 u4 t4 s4 => ?_
    have h4 := s4.get pa h3
    walk_at "rd"
    refine CK.of (n := (1 + r).toNat) (by omega) (by omega) fun acc hacc => ?_
    have ca : acc ≠ a := t4.ne hacc
    have cp : acc ≠ p := fun z => by subst z; rw [hacc] at h4; cases h4
    refine ⟨fun j zs H' => ∃ es : List RowT, es.length = j ∧ zs.length = j ∧ (∀ d ∈ es, RowG d) ∧ AtAll (hid acc (hid a H')) (es.map rowP) zs ∧ H' acc = some (.lst zs) ∧ Tp H' a (n + 7 + 60 * i + 1 + 12 * j) ∧ SX a H4 H', ?_, ?_, ?_⟩
    · exact ⟨[], rfl, rfl, fun d h => by simp at h, AtAll.nil, upd_same, t4.updN ca, (SX.refl a H4).updN hacc ca⟩
    · rintro j zs H5 hj ⟨es, le, lz, oe, a5, c5, t5, s5⟩
      show tCall _ _ _ _ [some _, some (.ref a)] H5 _
      walk_at "rd"
      refine Row.of t5 (by omega) fun v d H6 rk a6 t6 s6 => ?_
      have c6 := s6.get ca c5
      have c6' : hid a H6 acc = some (.lst zs) := by rw [hid_ne ca]; exact c6
      refine ⟨c6, (by rw [lz]; exact small1000 (by omega)), es ++ [d], by rw [List.length_append, le]; rfl, by rw [List.length_append, lz]; rfl, fun x hx => ?_, ?_, upd_same, ?_, ?_⟩
      · rcases List.mem_append.mp hx with z | z
        · exact oe x z
        · rw [List.mem_singleton.mp z]; exact rk
      · rw [hid_upd_ne ca, hid_upd, List.map_append]
        exact (a5.mono (Same.hid s6)).append (AtAll.cons (At.hidL c6' _ v (row_noL d) a6) AtAll.nil)
      · exact (t6.updN ca).mono (by omega)
      · exact (s5.trans s6).updN hacc ca
    · rintro zs H6 ⟨es, le, lz, oe, a6, c6, t6, s6⟩
      have h6 := s6.get pa h4
      refine ⟨acc, zs, rfl, c6, fun l hl => ?_⟩
      have la : l ≠ a := t6.ne hl
      have lp : l ≠ p := fun z => by subst z; rw [hl] at h6; cases h6
      refine ⟨p, ys, _, rfl, rfl, by rw [upd_ne (Ne.symm lp)]; exact h6, by rw [ly]; exact small1000 (by omega), ?_⟩
      have A1 : At (hid a (upd H6 l (.tup zs))) (ruleP es) (.ref l) := by
        rw [hid_upd_ne la]
        have fr : hid a H6 l = none := by rw [hid_ne la]; exact hl
        exact At.tup upd_same ((a6.mono hid_sub).mono (same_new fr _))
      have h7 : hid a (upd H6 l (.tup zs)) p = some (.lst ys) := by rw [hid_ne pa, upd_ne (Ne.symm lp)]; exact h6
      have s67 : SX a H3 (upd H6 l (.tup zs)) := (s4.trans s6).trans (SX.of (same_new hl _))
      refine ⟨rss ++ [es], ys ++ [.ref l], _, rfl, by rw [List.length_append, ld]; rfl, by rw [List.length_append, ly]; rfl, fun x hx => ?_, upd_same, ?_, ?_, ?_, ?_⟩
      · rcases List.mem_append.mp hx with z | z
        · exact od x z
        · rw [List.mem_singleton.mp z]; exact ⟨by omega, by omega, oe⟩
      · rw [hid_upd_ne pa, hid_upd, List.map_append]
        exact (a3.mono (Same.hid s67)).append (AtAll.cons (At.hidL h7 _ _ (rule_noL es) A1) AtAll.nil)
      · exact ((t6.updN la).updN pa).mono (by omega)
      · rw [upd_ne n7p]
        exact s67.get n7 e73
      · exact (s3.trans s67).updN fHp pa
  · rintro σ H3 ⟨rss, ys, o3, rfl, ld, ly, od, h3, a3, t3, e73, s3⟩
    walk_at "rd"
    refine Draw.of t3 (by omega) (by decide) (by decide) fun y11 H11 l11 u11 t11 s11 => ?_
    refine Draw.of t11 (by omega) (by decide) (by decide) fun y12 H12 l12 u12 t12 s12 => ⟨(by decide), fun p13 H13 f13 s13 e13 => ?_⟩
    have n13 := t12.ne f13
    refine Units.of (t12.same s13) (by omega) fun y14 H14 l14 u14 t14 s14 => ?_
    refine Draw.of t14 (by omega) (by decide) (by decide) fun y15 H15 l15 u15 t15 s15 => ?_
    refine Draw.of t15 (by omega) (by decide) (by decide) fun y16 H16 l16 u16 t16 s16 => ⟨_, _, rfl, rfl, ?_⟩
    have x3 : SX a H3 H16 := s11.trans (s12.trans ((SX.of s13).trans (s14.trans (s15.trans s16))))
    have x13 : SX a H13 H16 := s14.trans (s15.trans s16)
    refine ⟨p, ys, rfl, x3.get pa h3, fun l hl => ⟨by decide, fun p18 H18 f18 s18 e18 => ?_⟩⟩
    have la : l ≠ a := t16.ne hl
    have t17 : Tp (upd H16 l (.tup ys)) a (n + 7 + 60 * m.toNat + 1 + 1 + 4 + 1 + 1) := t16.updN la
    have n18 := t17.ne f18
    obtain ⟨lt, hlt⟩ : ∃ lt : Nat, y15 = (lt : Int) := ⟨y15.toNat, by omega⟩
    rw [hlt] at e18
    have x16 : SX a H16 H18 := (SX.of (same_new hl (.tup ys))).trans (SX.of s18)
    refine q p18 ⟨pc, y14, y5, y5 + y6, lt, 1 + y16, y11, y12, rss⟩ H18 ⟨hpc', ⟨l14, u14⟩, by show 0 ≤ y5 ∧ y5 ≤ y5 + y6; omega, by show y5 + y6 ≤ 12; omega, by show lt ≤ 4; omega, by show 1 ≤ 1 + y16 ∧ 1 + y16 ≤ 6; omega, by show 0 ≤ y11 ∧ y11 ≤ 9; omega, by show 0 ≤ y12 ∧ y12 ≤ 9; omega, by show rss.length ≤ 3; omega, od⟩ ?_ ((t17.same s18).mono (by omega)) (s3.trans (x3.trans x16))
    have A1 : At (hid a H18) (rulesP rss) (.ref l) := by
      have fr : hid a H16 l = none := by rw [hid_ne la]; exact hl
      have B1 : At (hid a (upd H16 l (.tup ys))) (rulesP rss) (.ref l) := by
        rw [hid_upd_ne la]
        exact At.tup upd_same (((a3.mono hid_sub).mono x3).mono (same_new fr _))
      exact B1.mono (Same.hid s18)
    exact At.tup (by rw [hid_ne n18]; exact e18) (AtAll.cons (At.int _) (AtAll.cons (At.int _) (AtAll.cons (At.tup (by rw [hid_ne n7]; exact (x3.trans x16).get n7 e73) (ats_ints [y5, y5 + y6])) (AtAll.cons (At.int _) (AtAll.cons (At.int _) (AtAll.cons (At.tup (by rw [hid_ne n13]; exact (x13.trans x16).get n13 e13) (ats_ints [y11, y12])) (AtAll.cons A1 AtAll.nil)))))))
theorem Post.of {a : Addr} {n : Nat} {H : Hp} {Q : VK} {E : XK} (tp : Tp H a n) (hn : n ≤ 100000000) (q : ∀ p x H', PsL x → At (hid a H') (pstD x) (.ref p) → Tp H' a (n + 400) → SX a H H' → Q (.ref p) H') : spPost ([.ref a, .int 12] ++ []) H Q E := ⟨a, n, rfl, tp, hn, q⟩
end
end K70
namespace K70
open PySem L2
local macro_rules | `(tactic| walk_at "rd") => `(tactic| simp only [L2.start, List.map_cons, List.map_nil, List.length_cons, List.length_nil, Nat.reduceAdd, Nat.reduceSub, List.replicate, List.cons_append, List.nil_append, List.append_nil,
  tSeq, tIfS, tRet, tRetN, tNext, tAsg, gName, tDrop, rd_var0, rd_varS, rd_gcons, rd_gnil, if_true, if_false, Bool.false_eq_true, Bool.not_true, Bool.not_false, rd_set0, rd_setS, rd_eqI, rd_neI, rd_eqS, rd_neS, rd_argI, rd_argB, rd_argII, rd_test, rd_int, rd_ii, tC, tOp, tUn, rI0, rI, rU, tTest, tAnd, tOr, tNot, tAndV, tOrV, tNotV, tIf, tCall, tCB, tCons, tNil, tB, tChain, tSl, tNoPart, tPart, gSub, tPar, tLst, tTup, tLstW, tTupW, tBM, tAug, tPar3, tAugS, ipI, tMaxD, tGT2, tFv, tJs, tJ1, tJ0, tTru])
section
variable {P : Program} {w : World} {K : PySem.W.Frag} {mg : Str → Option Value} {base : Heap} {f : Addr} {fd : FuncData} {k : Nat}
theorem jn_one : ∀ cs : List Nat, jn [] (cs.map fun c => [c]) = cs
  | [] => rfl
  | [c] => rfl
  | c :: d :: r => by
    show [c] ++ [] ++ jn [] ((d :: r).map fun c => [c]) = _
    rw [jn_one (d :: r)]; rfl
theorem letter {i : Int} (h0 : 0 ≤ i) (h1 : i < 26) : ∃ c : Nat, atI (Str.ofString "abcdefghijklmnopqrstuvwxyz").cps.toList i = some c ∧ c < 128 := by
  obtain ⟨j, rfl⟩ : ∃ j : Nat, i = (j : Int) := ⟨i.toNat, by omega⟩
  have hl : (Str.ofString "abcdefghijklmnopqrstuvwxyz").cps.toList = [97, 98, 99, 100, 101, 102, 103, 104, 105, 106, 107, 108, 109, 110, 111, 112, 113, 114, 115, 116, 117, 118, 119, 120, 121, 122] := by decide +kernel
  rw [hl]
  have hj : j < 26 := by omega
  refine ⟨_, atI_nat (List.getElem?_eq_getElem (by exact hj)), ?_⟩
  have : ∀ c ∈ ([97, 98, 99, 100, 101, 102, 103, 104, 105, 106, 107, 108, 109, 110, 111, 112, 113, 114, 115, 116, 117, 118, 119, 120, 121, 122] : List Nat), c < 128 := by decide
  exact this _ (List.getElem_mem _)
def spNm : Sp := fun vs H Q _ => ∃ (a : Addr) (n m : Nat), vs = [.ref a, .int m] ∧ m ≤ 5 ∧ Tp H a n ∧ n ≤ 100000000 ∧ ∀ p (zs : List Str) H', H p = none → p ≠ a → zs.length = m → (∀ z ∈ zs, StrG z) → H' p = some (.lst (zs.map V.str)) → Tp H' a (n + 100) → SX a H H' → Q (.ref p) H'
theorem sc_l_names : FnScope ["_law_tape_here", "_law_many", "_law_letters", "_law_start", "_law_step", "_law_found", "_law_k", "_law_body"] ["_law_tape_here", "_law_many"] (defScope s_l_names) := ⟨rfl, rfl, rfl, by decide +kernel, rfl, by decide +kernel, by decide +kernel⟩
theorem ok_l_names (F : Fun K "_law_names" "_law_names" s_l_names f fd) (B : Bi mg) (c_l_draw : Ct P w K mg base k "_law_draw" ["_law_tape_here", "_law_many"] spDraw) : FnOk P w K mg base CX0 (k + 1) f fd ["_law_tape_here", "_law_many"] spNm := by
  refine F.ok sc_l_names (by rintro vs H Q E ⟨a, n, m, rfl, _⟩; rfl) (fun cdv A outer s H vs Q E hr h => ?_)
  obtain ⟨a, n, m, rfl, hm, tp, hn, q⟩ := h
  have ND := sc_l_names.nd
  refine ⟨_, (pss_cons (ps_set (i := 2) ND rfl (by first | exact Or.inl rfl | exact Or.inr rfl) pe_str) (pss_cons (ps_par (i := 3) (j := 4) rfl ND rfl rfl (by decide) rfl rfl (pa_c (pf c_l_draw hr (pa_c (pv 0) (pa_c pe_int pa_nil))) (pa_c (pe_ix ix_obj (pe_lstW (pa_c pe_int (pa_c pe_int (pa_c pe_int (pa_c pe_int (pa_c pe_int (pa_c pe_int (pa_c pe_int (pa_c pe_int (pa_c pe_int (pa_c pe_int (pa_c pe_int (pa_c pe_int pa_nil))))))))))))) (pf c_l_draw hr (pa_c (pv 0) (pa_c pe_int pa_nil))) (fun _ _ => rfl)) pa_nil)) (by rfl)) (pss_cons (ps_set (i := 5) ND rfl (by first | exact Or.inl rfl | exact Or.inr rfl) (pe_lstW pa_nil)) (pss_cons (ps_for PassesOwn.never rfl (pi_range1 (by rfl) B.range (pa_c (pv 1) pa_nil)) (pg_name (i := 6) ND rfl (by first | exact Or.inl rfl | exact Or.inr rfl)) (pss_cons (ps_set (i := 7) ND rfl (by first | exact Or.inl rfl | exact Or.inr rfl) (pe_bm PySem.F.plainAttrs_str PySem.F.slot_str_join PySem.F.type_str_join mt_join pe_str (pa_c (pe_comp (N' := ["_law_turn", "_law_letters", "_law_tape_here"]) (js := [2, 0]) rfl (pi_range1 (by rfl) B.range (pa_c (pf c_l_draw hr (pa_c (pv 0) (pa_c pe_int pa_nil))) pa_nil)) CSc.mk2 rfl (by decide) rfl (fun fp s' H' => (pe_ix ix_str (pv 1) (pf c_l_draw hr (pa_c (pv 2) (pa_c pe_int pa_nil))) (fun _ _ => rfl)))) pa_nil))) (pss_one (ps_expr (pe_bm PySem.F.plainAttrs_list PySem.F.slot_list_append PySem.F.type_list_append mt_append (pv 5) (pa_c (pe_op op_add_str (pv 7) (pe_ix ix_str (pv 2) (pe_op op_mod (pe_op op_add (pv 3) (pe_op op_mul (pv 4) (pv 6))) pe_int) (fun _ _ => rfl))) pa_nil)))))) (pss_one (ps_ret (pv 5))))))), ?_⟩
  walk_at "rd"
  refine Draw.of tp (by omega) (by decide) (by decide) fun y1 H1 l1 u1 t1 s1 => ?_
  refine ⟨by decide, fun p2 H2 f2 s2 e2 => ?_⟩
  have n2 := t1.ne f2
  refine Draw.of (t1.same s2) (by omega) (by decide) (by decide) fun y3 H3 l3 u3 t3 s3 => ?_
  obtain ⟨st, hst, est⟩ := pick_ints (ts := [1, 3, 5, 7, 9, 11, 15, 17, 19, 21, 23, 25]) l3 u3
  have hst' : 1 ≤ st ∧ st ≤ 25 := by
    simp only [List.mem_cons, List.not_mem_nil, or_false] at hst
    rcases hst with rfl | rfl | rfl | rfl | rfl | rfl | rfl | rfl | rfl | rfl | rfl | rfl <;> omega
  refine Ix.lst (s3.get n2 e2) est ⟨_, _, rfl, by decide, fun p H4 f4 s4 e4 => ?_⟩
  clear hst est
  have pa := t3.ne f4
  have t4 := t3.same s4
  have x4 : SX a H H4 := s1.trans ((SX.of s2).trans (s3.trans (SX.of s4)))
  have fHp : H p = none := sxFree (s1.trans ((SX.of s2).trans s3)) pa f4
  generalize hL : Str.ofString "abcdefghijklmnopqrstuvwxyz" = LT
  have hLl : LT.length ≤ sizeLine := by rw [← hL]; decide
  have hlet : ∀ i : Int, 0 ≤ i → i < 26 → ∃ c : Nat, atI LT.cps.toList i = some c ∧ c < 128 := fun i h0 h1 => by rw [← hL]; exact letter h0 h1
  rw [tFor_rng]
  walk_at "rd"
  refine FK.of (n := m) rfl (by omega) (fun i σ H' => ∃ (zs : List Str) (o5 o6 : Option V), σ = [some (.ref a), some (.int m), some (.str LT), some (.int y1), some (.int st), some (.ref p), o5, o6] ∧ zs.length = i ∧ (∀ z ∈ zs, StrG z) ∧ H' p = some (.lst (zs.map V.str)) ∧ Tp H' a (n + 2 + 10 * i) ∧ SX a H H')
    ⟨[], none, none, rfl, rfl, fun z hz => by simp at hz, e4, t4.mono (by omega), x4⟩ ?_ ?_
  · rintro i σ H5 hi ⟨zs, o5, o6, rfl, lz, hzs, e5, t5, s5⟩
    walk_at "rd"
    refine ⟨rfl, ?_⟩
    rw [tComp_rng]
    walk_at "rd"
    refine Draw.of t5 (by omega) (by decide) (by decide) fun y6 H6 l6 u6 t6 s6 => ?_
    refine CK.of (n := y6.toNat) (by omega) (by omega) fun acc hacc => ?_
    have ca : acc ≠ a := t6.ne hacc
    refine ⟨fun j ws H' => ∃ cs : List Nat, cs.length = j ∧ ws = cs.map (fun c => V.str (tx [c])) ∧ (∀ c ∈ cs, c < 128) ∧ H' acc = some (.lst ws) ∧ Tp H' a (n + 2 + 10 * i + 1 + j) ∧ SX a H6 H', ?_, ?_, ?_⟩
    · exact ⟨[], rfl, rfl, fun d h => by simp at h, upd_same, t6.updN ca, (SX.refl a H6).updN hacc ca⟩
    · rintro j ws H7 hj ⟨cs, lc, rfl, hcs, c7, t7, s7⟩
      show tOp _ _ _ [some _, some (.str LT), some (.ref a)] H7 _
      walk_at "rd"
      refine Draw.of t7 (by omega) (by decide) (by decide) fun y8 H8 l8 u8 t8 s8 => ?_
      obtain ⟨c, hc, hc2⟩ := hlet y8 l8 u8
      refine ⟨LT, _, c, rfl, rfl, hLl, hc, s8.get ca c7, by rw [List.length_map, lc]; exact small1000 (by omega), cs ++ [c], by rw [List.length_append, lc]; rfl, by rw [List.map_append]; rfl, fun x hx => ?_, upd_same, (t8.updN ca).mono (by omega), (s7.trans s8).updN hacc ca⟩
      rcases List.mem_append.mp hx with h | h
      · exact hcs x h
      · rw [List.mem_singleton.mp h]; exact hc2
    · rintro ws H7 ⟨cs, lc, rfl, hcs, c7, t7, s7⟩
      have lc7 : cs.length ≤ 7 := by omega
      have ej : Str.join (Str.ofString "") (cs.map fun c => tx [c]) = tx cs := by
        rw [show Str.ofString "" = tx [] from rfl, show (cs.map fun c => tx [c]) = (cs.map fun c => [c]).map tx by rw [List.map_map]; rfl, join_tx, jn_one]
      refine ⟨_, acc, cs.map fun c => tx [c], rfl, rfl, by rw [c7, List.map_map]; rfl, ?_, ?_⟩
      · have := StrLaws.sumLen_le (B := 1) (cs.map fun c => tx [c]) (fun y hy => by
          obtain ⟨x, hx, rfl⟩ := List.mem_map.mp hy
          exact Nat.le_refl _)
        rw [List.length_map] at this ⊢
        rw [show (Str.ofString "").length = 0 from rfl]
        omega
      rw [ej]
      have e7 := (s6.trans s7).get pa e5
      refine ⟨.inl ⟨rfl, _, SqL.of e7⟩, .inl ⟨by omega, by omega⟩, by decide, ?_⟩
      have m0 := Int.emod_nonneg (y1 + st * (0 + (i : Int))) (show (26 : Int) ≠ 0 by decide)
      have m1 := Int.emod_lt_of_pos (y1 + st * (0 + (i : Int))) (show (0 : Int) < 26 by decide)
      obtain ⟨c, hc, hc2⟩ := hlet _ m0 m1
      refine ⟨LT, _, c, rfl, rfl, hLl, hc, _, _, rfl, rfl, ?_, ?_⟩
      · rw [tx_one, tx_len, tx_len, sizeLine_eq]; simp only [List.length_cons, List.length_nil]; omega
      rw [tx_one, tx_app]
      refine ⟨p, _, _, rfl, rfl, e7, by rw [List.length_map, lz]; exact small1000 (by omega), zs ++ [tx (cs ++ [c])], _, _, rfl, by rw [List.length_append, lz]; rfl, fun z hz => ?_, by rw [upd_same, List.map_append]; rfl, (t7.updN pa).mono (by omega), (s5.trans (s6.trans s7)).updN fHp pa⟩
      rcases List.mem_append.mp hz with h | h
      · exact hzs z h
      · rw [List.mem_singleton.mp h]
        refine ⟨by rw [tx_len, List.length_append]; simp only [List.length_cons, List.length_nil]; omega, fun x hx => ?_⟩
        unfold sg at hx
        rw [tx_cps] at hx
        rcases List.mem_append.mp hx with h | h
        · exact hcs x h
        · rw [List.mem_singleton.mp h]; exact hc2
  · rintro σ H5 ⟨zs, o5, o6, rfl, lz, hzs, e5, t5, s5⟩
    walk_at "rd"
    exact q p zs H5 fHp pa lz hzs e5 (t5.mono (by omega)) s5
theorem Nm.of {a : Addr} {n m : Nat} {j : Int} {H : Hp} {Q : VK} {E : XK} (ej : j = m) (hm : m ≤ 5) (tp : Tp H a n) (hn : n ≤ 100000000) (q : ∀ p (zs : List Str) H', H p = none → p ≠ a → zs.length = m → (∀ z ∈ zs, StrG z) → H' p = some (.lst (zs.map V.str)) → Tp H' a (n + 100) → SX a H H' → Q (.ref p) H') : spNm ([.ref a, .int j] ++ []) H Q E := by
  subst ej
  exact ⟨a, n, m, rfl, hm, tp, hn, q⟩
theorem pst_noL (x : Pst) : noL (pstD x) = true := by
  have h : noL (rulesP x.rss) = true := by
    show noLAll (x.rss.map ruleP) = true
    exact noLAll_iff.mpr fun d hd => by obtain ⟨rs, _, rfl⟩ := List.mem_map.mp hd; exact rule_noL rs
  unfold pstD postP
  simp [noL, noLAll, h]
theorem pst_lo {H : Hp} {x : Pst} {v : V} (h : At H (pstD x) v) : ∃ a b r, v = .ref a ∧ H a = some (.tup r) ∧ atI r 2 = some (.ref b) ∧ H b = some (.tup [.int x.lo, .int x.hi]) := by
  obtain ⟨a, b, c, d, ys, e, ha, hb, _⟩ := pst_full h
  exact ⟨a, b, _, e, ha, atI_nat (j := 2) rfl, hb⟩
/-- a yard drawn -/
def spYd : Sp := fun vs H Q _ => ∃ (a : Addr) (n : Nat), vs = [.ref a] ∧ Tp H a n ∧ n ≤ 10000000 ∧ ∀ p q xs (t : Int) (yd : List Nmd) H', (0 ≤ t ∧ t ≤ 60) → yd.length ≤ 5 → (∀ x ∈ yd, NmdG x) → H p = none → H q = none → p ≠ a → q ≠ a → H' p = some (.tup [.int t, .ref q]) → H' q = some (.lst xs) → AtAll (hid q (hid a H')) (yd.map nmdP) xs → Tp H' a (n + 5000) → SX a H H' → Q (.ref p) H'
theorem sc_l_yard : FnScope ["_law_tape_here", "_law_names_here", "_law_some", "_law_least", "_law_posts", "_law_k", "_law_name", "_law_behind"] ["_law_tape_here"] (defScope s_l_yard) := ⟨rfl, rfl, rfl, by decide +kernel, rfl, by decide +kernel, by decide +kernel⟩
theorem ok_l_yard (F : Fun K "_law_yard" "_law_yard" s_l_yard f fd) (B : Bi mg) (c_l_draw : Ct P w K mg base k "_law_draw" ["_law_tape_here", "_law_many"] spDraw) (c_l_names : Ct P w K mg base k "_law_names" ["_law_tape_here", "_law_many"] spNm) (c_l_post : Ct P w K mg base k "_law_post" ["_law_tape_here", "_law_least"] spPost) : FnOk P w K mg base CX0 (k + 1) f fd ["_law_tape_here"] spYd := by
  refine F.ok sc_l_yard (by rintro vs H Q E ⟨a, n, rfl, _⟩; rfl) (fun cdv A outer s H vs Q E hr h => ?_)
  obtain ⟨a, n, rfl, tp, hn, q⟩ := h
  have ND := sc_l_yard.nd
  refine ⟨_, (pss_cons (ps_set (i := 1) ND rfl (by first | exact Or.inl rfl | exact Or.inr rfl) (pf c_l_names hr (pa_c (pv 0) (pa_c (pe_op op_add pe_int (pf c_l_draw hr (pa_c (pv 0) (pa_c pe_int pa_nil)))) pa_nil)))) (pss_cons (ps_comp (i := 2) ND rfl (by first | exact Or.inl rfl | exact Or.inr rfl) (N' := ["_law_name", "_law_tape_here"]) (js := [0]) rfl (pi_list (pv 1)) CSc.mk1 rfl (by decide) rfl (fun fp s' H' => (pf c_l_post hr (pa_c (pv 1) (pa_c pe_int pa_nil))))) (pss_cons (ps_set (i := 3) ND rfl (by first | exact Or.inl rfl | exact Or.inr rfl) (pb (call_sumI rfl) B.sum bt_sum (pa_c (pe_comp (N' := ["_law_post_here"]) (js := []) rfl (pi_list (pv 2)) CSc.mk0 rfl (by decide) rfl (fun fp s' H' => (pe_ix ix_obj (pe_ix ix_obj (pv 0) pe_int (fun _ _ => rfl)) pe_int (fun _ _ => rfl)))) pa_nil))) (pss_cons (ps_set (i := 4) ND rfl (by first | exact Or.inl rfl | exact Or.inr rfl) (pe_lstW pa_nil)) (pss_cons (ps_for PassesOwn.never rfl (pi_enum (K := K) rfl B.enumerate (pa_c (pv 1) pa_nil)) (pg_tup rfl (pgs_cons (pg_name (i := 5) ND rfl (by first | exact Or.inl rfl | exact Or.inr rfl)) (pgs_cons (pg_name (i := 6) ND rfl (by first | exact Or.inl rfl | exact Or.inr rfl)) pgs_nil))) (pss_cons (ps_set (i := 7) ND rfl (by first | exact Or.inl rfl | exact Or.inr rfl) (pe_op op_cat (pe_slice sl_list (pv 1) (po_some (pe_op op_add (pv 5) pe_int)) po_none) (pe_lstW (pa_c pe_non pa_nil)))) (pss_one (ps_expr (pe_bm PySem.F.plainAttrs_list PySem.F.slot_list_append PySem.F.type_list_append mt_append (pv 4) (pa_c (pe_tupW (pa_c (pv 6) (pa_c (pe_ix ix_obj (pv 2) (pv 5) (fun _ _ => rfl)) (pa_c (pe_ix ix_obj (pv 7) (pf c_l_draw hr (pa_c (pv 0) (pa_c (pb (call_lenK (K := K) rfl) B.len bt_len (pa_c (pv 7) pa_nil)) pa_nil))) (fun _ _ => rfl)) pa_nil)))) pa_nil)))))) (pss_one (ps_ret (pe_tupW (pa_c (pb (call_min2 rfl) B.min bt_min (pa_c pe_int (pa_c (pe_op op_add (pv 3) (pe_ix ix_obj (pe_lstW (pa_c pe_int (pa_c (pf c_l_draw hr (pa_c (pv 0) (pa_c pe_int pa_nil))) pa_nil))) (pf c_l_draw hr (pa_c (pv 0) (pa_c pe_int pa_nil))) (fun _ _ => rfl))) pa_nil))) (pa_c (pv 4) pa_nil)))))))))), ?_⟩
  walk_at "rd"
  refine Draw.of tp (by omega) (by decide) (by decide) fun y1 H1 l1 u1 t1 s1 => ?_
  obtain ⟨m, em, m1, m2⟩ : ∃ m : Nat, 1 + y1 = (m : Int) ∧ 1 ≤ m ∧ m ≤ 5 := ⟨(1 + y1).toNat, by omega, by omega, by omega⟩
  walk_at "rd"
  refine Nm.of em m2 t1 (by omega) fun p2 zs H2 f2 n2 lz hzs e2 t2 s2 => ?_
  refine comp_LJ (fun R hR => ?_) e2 (by rw [List.length_map, sizeLine_eq]; omega) fun acc hacc => ?_
  · walk_at "rd"; exact hR
  have ca : acc ≠ a := t2.ne hacc
  refine ⟨fun i ys H' => ∃ xs : List Pst, xs.length = i ∧ ys.length = i ∧ (∀ x ∈ xs, PsL x) ∧ AtAll (hid acc (hid a H')) (xs.map pstD) ys ∧ H' acc = some (.lst ys) ∧ H' p2 = some (.lst (zs.map V.str)) ∧ Tp H' a (n + 101 + 400 * i) ∧ SX a H2 H', ?_, ?_, ?_, ?_⟩
  · exact ⟨[], rfl, rfl, fun x hx => by simp at hx, AtAll.nil, upd_same, by rw [upd_ne (ne_of_none e2 hacc)]; exact e2, (t2.updN ca).mono (by omega), (SX.refl a H2).updN hacc ca⟩
  · rintro i ys H' _ ⟨xs, _, ly, _, _, h1, h2, _⟩
    exact ⟨ly, h2, h1⟩
  · rintro i z ys H3 hz ⟨xs, lx, ly, hx, A3, e3, e23, t3, s3⟩ R hR
    have hi : i < 5 := by
      have := (List.getElem?_eq_some_iff.mp hz).1
      rw [List.length_map] at this
      omega
    show tCall _ _ _ _ [some _, some (.ref a)] H3 _
    walk_at "rd"
    refine Post.of t3 (by omega) fun p4 x H4 px a4 t4 s4 => ?_
    have e4 := s4.get ca e3
    have e4' : hid a H4 acc = some (.lst ys) := by rw [hid_ne ca]; exact e4
    refine hR _ _ e4 ⟨xs ++ [x], by rw [List.length_append, lx]; rfl, by rw [List.length_append, ly]; rfl, fun y hy => ?_, ?_, upd_same, ?_, (t4.updN ca).mono (by omega), (s3.trans s4).updN hacc ca⟩
    · rcases List.mem_append.mp hy with h | h
      · exact hx y h
      · rw [List.mem_singleton.mp h]; exact px
    · rw [hid_upd_ne ca, hid_upd, List.map_append]
      exact (A3.mono (Same.hid s4)).append (AtAll.cons (At.hidL e4' _ _ (pst_noL x) a4) AtAll.nil)
    · rw [upd_ne (ne_of_none e2 hacc)]
      exact s4.get n2 e23
  rintro ys H3 ⟨xs, lx, ly, hx, A3, e3, e23, t3, s3⟩
  rw [List.length_map, lz] at lx ly
  have A3' := A3.mono hid_sub
  refine comp_LJ (fun R hR => ?_) e3 (by rw [sizeLine_eq]; omega) fun acc2 hacc2 => ?_
  · walk_at "rd"; exact hR
  have ca2 : acc2 ≠ a := t3.ne hacc2
  refine ⟨fun i ws H' => i ≤ m ∧ ws = ((xs.take i).map fun x => V.int x.lo) ∧ Same H3 H' ∧ H' acc2 = some (.lst ws), ⟨by omega, rfl, same_new hacc2 _, upd_same⟩, ?_, ?_, ?_⟩
  · rintro i ws H' hi ⟨_, rfl, s', e'⟩
    exact ⟨by rw [List.length_map, List.length_take]; omega, s' _ _ e3, e'⟩
  · rintro i z ws H4 hz ⟨_, rfl, s4, e4⟩ R hR
    have hi : i < m := by have := (List.getElem?_eq_some_iff.mp hz).1; omega
    obtain ⟨e, ee, he⟩ := A3'.get hz
    rw [List.getElem?_map] at ee
    cases hg : xs[i]? with
    | none => rw [hg] at ee; cases ee
    | some x =>
    rw [hg] at ee
    cases ee
    obtain ⟨pa, pb, rr, rfl, h1, h2, h3⟩ := pst_lo ((he.mono hid_sub).mono s4)
    walk_at "rd"
    refine Ix.tup h1 h2 (Ix.tup h3 (atI_nat (j := 0) rfl) ?_)
    refine hR _ _ e4 ⟨hi, ?_, s4.updN hacc2, upd_same⟩
    have e3 : xs[i]'(by omega) = x := (List.getElem?_eq_some_iff.mp hg).2
    rw [List.take_succ_eq_append_getElem (by omega), List.map_append, e3]
    rfl
  rintro ws H4 ⟨_, rfl, s4, e4⟩
  rw [ly, ← lx, List.take_length] at e4
  have hlo : 0 ≤ (xs.map fun x => x.lo).sum := by
    clear lx A3 A3' e4
    induction xs with
    | nil => exact Int.le_refl _
    | cons x r ih =>
      rw [List.map_cons, List.sum_cons]
      have h1 := (hx x (List.mem_cons_self ..)).lo
      have h2 := ih fun y hy => hx y (List.mem_cons_of_mem _ hy)
      omega
  refine ⟨acc2, xs.map fun x => x.lo, rfl, .inl (by rw [e4, List.map_map]; rfl), by decide, fun p5 H5 f5 s5 e5 => ?_⟩
  have t5 := (t3.same s4).same s5
  have n5 := (t3.same s4).ne f5
  have s35 := s4.trans s5
  have x5 : SX a H H5 := s1.trans (s2.trans (s3.trans (SX.of s35)))
  have fH5 : H p5 = none := sxFree (s1.trans (s2.trans (s3.trans (SX.of s4)))) n5 f5
  have nc5 : acc ≠ p5 := fun z => by rw [← z, s4 _ _ e3] at f5; cases f5
  have n25 : p2 ≠ p5 := fun z => by rw [← z, s4 _ _ e23] at f5; cases f5
  have A5 : AtAll (hid p5 (hid a H5)) (xs.map pstD) ys := by
    have B4 : AtAll (hid a H4) (xs.map pstD) ys := A3'.mono (Same.hid s4)
    refine B4.mono fun b o hb => ?_
    have nb : b ≠ p5 := fun z => by
      rw [z, hid_ne n5, f5] at hb; cases hb
    rw [hid_ne nb]
    exact (Same.hid s5) _ _ hb
  rw [tFor_enum]
  walk_at "rd"
  refine EK.of (xs := zs.map V.str) (s35 _ _ e23) (fun i σ H' => ∃ (yd : List Nmd) (vs : List V) (o5 o6 o7 : Option V), σ = [some (.ref a), some (.ref p2), some (.ref acc), some (.int (xs.map fun x => x.lo).sum), some (.ref p5), o5, o6, o7] ∧ yd.length = i ∧ vs.length = i ∧ (∀ x ∈ yd, NmdG x) ∧ H' p5 = some (.lst vs) ∧ AtAll (hid p5 (hid a H')) (yd.map nmdP) vs ∧ AtAll (hid p5 (hid a H')) (xs.map pstD) ys ∧ H' acc = some (.lst ys) ∧ H' p2 = some (.lst (zs.map V.str)) ∧ Tp H' a (n + 101 + 400 * m + i) ∧ SX a H H')
    ⟨[], [], none, none, none, rfl, rfl, rfl, fun x hx => by simp at hx, e5, AtAll.nil, A5, s35 _ _ e3, s35 _ _ e23, by rw [List.length_map, lz] at t5; exact t5, x5⟩ (fun i σ H' _ h => by obtain ⟨_, _, _, _, _, _, _, _, _, _, _, _, _, h, _⟩ := h; exact h) ?_ ?_
  · rintro i z σ H6 p6 hz ⟨yd, vs, o5, o6, o7, rfl, lyd, lvs, hyd, e6, A6, B6, ea6, e26, t6, s6⟩ f6
    have hi : i < m := by
      have := (List.getElem?_eq_some_iff.mp hz).1
      rw [List.length_map] at this
      omega
    rw [List.getElem?_map] at hz
    cases hgz : zs[i]? with
    | none => rw [hgz] at hz; cases hz
    | some nm =>
    rw [hgz] at hz
    cases hz
    have hnm := hzs nm (List.mem_of_getElem? hgz)
    have hgx : xs[i]? = some (xs[i]'(by omega)) := List.getElem?_eq_getElem (by omega)
    generalize xs[i]'(by omega) = x at hgx
    have hxl := hx x (List.mem_of_getElem? hgx)
    have hgy : ys[i]? = some (ys[i]'(by omega)) := List.getElem?_eq_getElem (by omega)
    generalize ys[i]'(by omega) = yv at hgy
    refine ⟨p6, _, rfl, SqT.of upd_same, rfl, ?_⟩
    have s7 := same_new f6 (HO.tup [V.int (i : Nat), V.str nm])
    generalize upd H6 p6 (HO.tup [V.int (i : Nat), V.str nm]) = H7 at s7 ⊢
    walk_at "rd"
    refine ⟨p2, _, rfl, SqL.of (s7 _ _ e26), fun p8 f8 => ⟨by decide, fun p9 H9 f9 s9 e9 => ?_⟩⟩
    have s8 := same_new f8 (.lst (cutV (zs.map V.str) (some ((i : Int) + 1)) none))
    have e8 : H9 p8 = some (.lst ((zs.drop (i + 1)).map V.str)) := by
      rw [s9 _ _ upd_same, cut_from (by omega), show ((i : Int) + 1).toNat = i + 1 by omega, List.map_drop]
    refine ⟨p8, p9, _, _, rfl, rfl, e8, e9, by rw [List.length_map, List.length_drop, sizeLine_eq]; simp only [List.length_cons, List.length_nil]; omega, fun p10 f10 => ?_⟩
    have s10 := s7.trans (s8.trans (s9.trans (same_new f10 (.lst ((zs.drop (i + 1)).map V.str ++ [V.non])))))
    have n10 : p10 ≠ a := (t6.same (s7.trans (s8.trans s9))).ne f10
    have e10 : upd H9 p10 (.lst ((zs.drop (i + 1)).map V.str ++ [V.non])) p10 = some (.lst ((zs.drop (i + 1)).map V.str ++ [V.non])) := upd_same
    generalize upd H9 p10 (.lst ((zs.drop (i + 1)).map V.str ++ [V.non])) = H10 at *
    have t10 := t6.same s10
    refine ⟨.inl ⟨rfl, _, SqL.of (s10 _ _ e6)⟩, ?_⟩
    refine Ix.lst (s10 _ _ ea6) (atI_nat hgy) ?_
    refine ⟨p10, _, rfl, .inl (SqL.of e10), ?_⟩
    have ll : ((zs.drop (i + 1)).map V.str ++ [V.non]).length = m - i := by rw [List.length_append, List.length_map, List.length_drop]; simp only [List.length_cons, List.length_nil]; omega
    rw [ll]
    refine Draw.of t10 (by omega) (by omega) (by omega) fun d H11 l11 u11 t11 s11 => ?_
    have hd : d.toNat < ((zs.drop (i + 1)).map V.str ++ [V.non]).length := by rw [ll]; omega
    have ev : atI ((zs.drop (i + 1)).map V.str ++ [V.non]) d = some (((zs.drop (i + 1)).map V.str ++ [V.non])[d.toNat]'hd) := by
      have := atI_nat (List.getElem?_eq_getElem hd)
      rwa [Int.toNat_of_nonneg l11] at this
    have hon : ∃ on : Option Str, ((zs.drop (i + 1)).map V.str ++ [V.non])[d.toNat]'hd = onV on ∧ ∀ z, on = some z → StrG z := by
      have hm := List.getElem_mem hd
      rcases List.mem_append.mp hm with h | h
      · obtain ⟨z, hz, ez⟩ := List.mem_map.mp h
        exact ⟨some z, ez.symm, fun y hy => by cases hy; exact hzs z (List.mem_of_mem_drop hz)⟩
      · exact ⟨none, List.mem_singleton.mp h, fun y hy => by cases hy⟩
    obtain ⟨on, eon, hon⟩ := hon
    rw [eon] at ev
    refine Ix.lst (s11.get n10 e10) ev ⟨by decide, fun p12 H12 f12 s12 e12 => ?_⟩
    have x6 : SX a H6 H12 := (SX.of s10).trans (s11.trans (SX.of s12))
    have n12 : p12 ≠ a := t11.ne f12
    have e5b : H11 p5 = some (.lst vs) := s11.get n5 (s10 _ _ e6)
    have n125 : p12 ≠ p5 := fun z => by rw [z, e5b] at f12; cases f12
    have e5c := s12 _ _ e5b
    refine ⟨p5, _, _, rfl, rfl, e5c, by rw [lvs]; exact small1000 (by omega), yd ++ [⟨nm, x, on⟩], vs ++ [.ref p12], _, _, _, rfl, by rw [List.length_append, lyd]; rfl, by rw [List.length_append, lvs]; rfl, fun y hy => ?_, upd_same, ?_, ?_, ?_, ?_, ((t11.same s12).updN n5).mono (by omega), (s6.trans x6).updN fH5 n5⟩
    · rcases List.mem_append.mp hy with h | h
      · exact hyd y h
      · rw [List.mem_singleton.mp h]; exact ⟨hnm, hxl, hon⟩
    · rw [hid_upd_ne n5, hid_upd, List.map_append]
      refine (A6.mono (Same.hid x6)).append (AtAll.cons ?_ AtAll.nil)
      obtain ⟨e', ee', he'⟩ := B6.get hgy
      rw [List.getElem?_map, hgx] at ee'
      cases ee'
      refine At.tup (by rw [hid_ne n125, hid_ne n12]; exact e12) (AtAll.cons (At.str _) (AtAll.cons (he'.mono (Same.hid x6)) (AtAll.cons ?_ AtAll.nil)))
      cases on with
      | none => show At _ .none .non; unfold At; rfl
      | some z => exact At.str _
    · rw [hid_upd_ne n5, hid_upd]
      exact B6.mono (Same.hid x6)
    · rw [upd_ne nc5]
      exact x6.get ca ea6
    · rw [upd_ne n25]
      exact x6.get n2 e26
  · rintro σ H6 ⟨yd, vs, o5, o6, o7, rfl, lyd, lvs, hyd, e6, A6, B6, ea6, e26, t6, s6⟩
    rw [List.length_map, lz] at lyd lvs t6
    walk_at "rd"
    refine Draw.of t6 (by omega) (by decide) (by decide) fun y7 H7 l7 u7 t7 s7 => ⟨by decide, fun p8 H8 f8 s8 e8 => ?_⟩
    have n8 := t7.ne f8
    refine Draw.of (t7.same s8) (by omega) (by decide) (by decide) fun y9 H9 l9 u9 t9 s9 => ?_
    obtain ⟨j, hj, ej⟩ := pick_ints (ts := [0, y7]) l9 u9
    have hj' : 0 ≤ j ∧ j ≤ 60 := by
      simp only [List.mem_cons, List.not_mem_nil, or_false] at hj
      rcases hj with rfl | rfl <;> omega
    refine Ix.lst (s9.get n8 e8) ej ⟨_, _, rfl, rfl, by decide, fun p10 H10 f10 s10 e10 => ?_⟩
    have n10 := t9.ne f10
    have x6 : SX a H6 H10 := s7.trans ((SX.of s8).trans (s9.trans (SX.of s10)))
    refine q p10 p5 vs _ yd H10 (by split <;> omega) (by omega) hyd (sxFree (s6.trans (s7.trans ((SX.of s8).trans s9))) n10 f10) fH5 n10 n5 e10 (x6.get n5 e6) (A6.mono (Same.hid x6)) ((t9.same s10).mono (by omega)) (s6.trans x6)
theorem Yd.of {a : Addr} {n : Nat} {H : Hp} {Q : VK} {E : XK} (tp : Tp H a n) (hn : n ≤ 10000000) (q : ∀ p q xs (t : Int) (yd : List Nmd) H', (0 ≤ t ∧ t ≤ 60) → yd.length ≤ 5 → (∀ x ∈ yd, NmdG x) → H p = none → H q = none → p ≠ a → q ≠ a → H' p = some (.tup [.int t, .ref q]) → H' q = some (.lst xs) → AtAll (hid q (hid a H')) (yd.map nmdP) xs → Tp H' a (n + 5000) → SX a H H' → Q (.ref p) H') : spYd ([.ref a] ++ []) H Q E := ⟨a, n, rfl, tp, hn, q⟩
end
end K70
namespace K70
open PySem L2
local macro_rules | `(tactic| walk_at "rd") => `(tactic| simp only [L2.start, List.map_cons, List.map_nil, List.length_cons, List.length_nil, Nat.reduceAdd, Nat.reduceSub, List.replicate, List.cons_append, List.nil_append, List.append_nil,
  tSeq, tIfS, tRet, tRetN, tNext, tAsg, gName, tDrop, rd_var0, rd_varS, rd_gcons, rd_gnil, if_true, if_false, Bool.false_eq_true, Bool.not_true, Bool.not_false, rd_set0, rd_setS, rd_eqI, rd_neI, rd_eqS, rd_neS, rd_argI, rd_argB, rd_argII, rd_test, rd_int, rd_ii, tC, tOp, tUn, rI0, rI, rU, tTest, tAnd, tOr, tNot, tAndV, tOrV, tNotV, tIf, tCall, tCB, tCons, tNil, tB, tChain, tSl, tNoPart, tPart, gSub, tPar, tLst, tTup, tLstW, tTupW, tBM, tAug, tPar3, tAugS, ipI, tMaxD, tGT2, tFv, tJs, tJ1, tJ0, tTru])
section
variable {P : Program} {w : World} {K : PySem.W.Frag} {mg : Str → Option Value} {base : Heap} {f : Addr} {fd : FuncData} {k : Nat}
theorem strOk_low {z : Str} (h : ∀ c ∈ sg z, c < 128) : PyData.strOk z = true := by
  show z.cps.all _ = true
  rw [← Array.all_toList, List.all_eq_true]
  intro c hc
  exact decide_eq_true (Nat.lt_trans (h c hc) (by decide))
theorem pl_row {r : RowT} (h : RowG r) : Pl 1 (rowP r) := by
  have h1 : PyData.strOk r.w = true := by have := h.is.w; revert this; simp only [List.mem_cons, List.not_mem_nil, or_false]; rintro (e | e | e) <;> rw [e] <;> decide +kernel
  have h2 : PyData.strOk r.g = true := by have := h.g; revert this; simp only [List.mem_cons, List.not_mem_nil, or_false]; rintro (e | e | e) <;> rw [e] <;> decide +kernel
  exact Pl.tup (Pl.cons (Pl.str h1) (Pl.cons (Pl.int _) (Pl.cons (Pl.str h2) (Pl.cons (Pl.int _) (Pl.cons (Pl.int _) Pl.nil)))))
theorem pl_post {x : Pst} (h : PsL x) : Pl 4 (pstD x) := by
  have h1 : Pl 3 (rulesP x.rss) := Pl.tup (Pl.map fun rs hrs => Pl.tup (Pl.map fun r hr => pl_row ((h.r rs hrs).g r hr)))
  exact Pl.tup (Pl.cons (Pl.int _) (Pl.cons (Pl.int _) (Pl.cons ((Pl.tup (n := 0) (Pl.ints [x.lo, x.hi])).mono (by decide)) (Pl.cons (Pl.int _) (Pl.cons (Pl.int _) (Pl.cons ((Pl.tup (n := 0) (Pl.ints [x.u, x.d])).mono (by decide)) (Pl.cons h1 Pl.nil)))))))
theorem pl_nmd {n : Nmd} (h : NmdG n) : Pl 5 (nmdP n) := by
  refine Pl.tup (Pl.cons (Pl.str (strOk_low h.nm.2)) (Pl.cons (pl_post h.x) (Pl.cons ?_ Pl.nil)))
  cases ho : n.on with
  | none => exact Pl.none
  | some z => exact Pl.str (strOk_low (h.on z ho).2)
theorem nmd_noL (n : Nmd) : noL (nmdP n) = true := by
  unfold nmdP
  have h : noL (onP n.on) = true := by cases n.on <;> rfl
  simp [noL, noLAll, pst_noL, h]
theorem Scr.updL {K : PySem.W.Frag} {H : Hp} {p q : Addr} {xs ys : List V} {o : HO} (h : Scr K H p xs) (e : H q = some (.lst ys)) : Scr K (upd H q o) p xs := by
  rcases h with ⟨ob, h⟩ | h
  · have n : p ≠ q := fun z => by rw [z, e] at h; cases h
    exact .inl ⟨ob, by rw [upd_ne n]; exact h⟩
  · exact .inr h
def spLaw (K : PySem.W.Frag) : Sp := fun vs H Q _ => ∃ (p : Addr) (ns : List Int), vs = [.ref p] ∧ Scr K H p (ns.map V.int) ∧ ns.length ≤ 63 ∧ ∀ H', Q (.bl true) H'
theorem sc_law : FnScope ["_law_script", "_law_k", "_law_total", "_law_posts", "_law_due", "_law_handed", "_law_told", "_law_name", "_law_post_here", "_law_onward", "_law_rows", "_law_turn", "_law_found"] ["_law_script"] (defScope s_law) := ⟨rfl, rfl, rfl, by decide +kernel, rfl, by decide +kernel, by decide +kernel⟩
theorem ok_law (F : Fun K "law" "law" s_law f fd) (B : Bi mg) (c_l_tape : Ct P w K mg base k "_law_tape" ["_law_script", "_law_k"] (spTape K)) (c_l_yard : Ct P w K mg base k "_law_yard" ["_law_tape_here"] spYd) (c_l_text : Ct P w K mg base k "_law_text" ["_law_rows"] spTx)
    (c_l_yard_words : Ct P w K mg base k "_law_yard_words" ["_law_total", "_law_posts"] spYw) (c_yard_text : Ct P w K mg base k "yard_text" ["total", "posts"] spYt) (c_l_sameS : Ct P w K mg base k "_law_same" ["_law_found", "_law_due"] spSs) (c_l_sameL : Ct P w K mg base k "_law_same" ["_law_found", "_law_due"] spSl)
    (c_l_rules_words : Ct P w K mg base k "_law_rules_words" ["_law_post_here"] spRs) (c_post_rows : Ct P w K mg base k "post_rows" ["post"] spPr) : FnOk P w K mg base CX0 (k + 1) f fd ["_law_script"] (spLaw K) := by
  refine F.ok sc_law (by rintro vs H Q E ⟨p, ns, rfl, _⟩; rfl) (fun cdv A outer s H vs Q E hr h => ?_)
  obtain ⟨p, ns, rfl, hS, hl, q⟩ := h
  have ND := sc_law.nd
  refine ⟨_, (pss_cons (ps_for PassesOwn.never rfl (pi_range1 (by rfl) B.range (pa_c (pb (call_max2 rfl) B.max bt_max (pa_c pe_int (pa_c (pb (call_min2 rfl) B.min bt_min (pa_c (pb (call_lenK (K := K) rfl) B.len bt_len (pa_c (pv 0) pa_nil)) (pa_c pe_int pa_nil))) pa_nil))) pa_nil)) (pg_name (i := 1) ND rfl (by first | exact Or.inl rfl | exact Or.inr rfl)) (pss_cons (ps_asg (pf c_l_yard hr (pa_c (pf c_l_tape hr (pa_c (pv 0) (pa_c (pv 1) pa_nil))) pa_nil)) (pg_tup rfl (pgs_cons (pg_name (i := 2) ND rfl (by first | exact Or.inl rfl | exact Or.inr rfl)) (pgs_cons (pg_name (i := 3) ND rfl (by first | exact Or.inl rfl | exact Or.inr rfl)) pgs_nil)))) (pss_cons (ps_set (i := 4) ND rfl (by first | exact Or.inl rfl | exact Or.inr rfl) (pf c_l_text hr (pa_c (pf c_l_yard_words hr (pa_c (pv 2) (pa_c (pv 3) pa_nil))) pa_nil))) (pss_cons (ps_set (i := 5) ND rfl (by first | exact Or.inl rfl | exact Or.inr rfl) (pt (call_lstL) B.list bt_list (pa_c (pv 3) pa_nil))) (pss_cons (ps_set (i := 6) ND rfl (by first | exact Or.inl rfl | exact Or.inr rfl) (pf c_yard_text hr (pa_c (pv 2) (pa_c (pv 5) pa_nil)))) (pss_cons (ps_if (PW.pt (pw_or (pt_not (pt_val (pf c_l_sameS hr (pa_c (pv 6) (pa_c (pv 4) pa_nil))))) (pw_or1 (pt_cmpR (op_neD hr.units) (pv 5) (pv 3) (nomark _))))) (pss_one (ps_ret pe_bl)) pss_nil) (pss_cons (ps_expr (pe_bm0 PySem.F.plainAttrs_list PySem.F.slot_list_reverse PySem.F.type_list_reverse mt_reverse (pv 5))) (pss_cons (ps_for PassesOwn.never rfl (pi_list (pv 3)) (pg_tup rfl (pgs_cons (pg_name (i := 7) ND rfl (by first | exact Or.inl rfl | exact Or.inr rfl)) (pgs_cons (pg_name (i := 8) ND rfl (by first | exact Or.inl rfl | exact Or.inr rfl)) (pgs_cons (pg_name (i := 9) ND rfl (by first | exact Or.inl rfl | exact Or.inr rfl)) pgs_nil)))) (pss_cons (ps_comp (i := 10) ND rfl (by first | exact Or.inl rfl | exact Or.inr rfl) (N' := ["_law_words"]) (js := []) rfl (pi_list (pf c_l_rules_words hr (pa_c (pv 8) pa_nil))) CSc.mk0 rfl (by decide) rfl (fun fp s' H' => (pe_bmK (K := K) rfl PySem.F.plainAttrs_str PySem.F.slot_str_join PySem.F.type_str_join mt_join pe_str (pa_c (pv 0) pa_nil)))) (pss_one (ps_for PassesOwn.never rfl (pi_range1 (by rfl) B.range (pa_c pe_int pa_nil)) (pg_name (i := 11) ND rfl (by first | exact Or.inl rfl | exact Or.inr rfl)) (pss_cons (ps_set (i := 12) ND rfl (by first | exact Or.inl rfl | exact Or.inr rfl) (pf c_post_rows hr (pa_c (pv 8) pa_nil))) (pss_cons (ps_if (pt_not (pt_val (pf c_l_sameL hr (pa_c (pv 12) (pa_c (pv 10) pa_nil))))) (pss_one (ps_ret pe_bl)) pss_nil) (pss_cons (ps_expr (pe_bm PySem.F.plainAttrs_list PySem.F.slot_list_append PySem.F.type_list_append mt_append (pv 12) (pa_c pe_str pa_nil))) (pss_one (ps_expr (pe_bm0 PySem.F.plainAttrs_list PySem.F.slot_list_reverse PySem.F.type_list_reverse mt_reverse (pv 12))))))))))) (pss_one (ps_if (pt_cmpR op_ne (pf c_yard_text hr (pa_c (pv 2) (pa_c (pv 3) pa_nil))) (pv 4) (nomark _)) (pss_one (ps_ret pe_bl)) pss_nil)))))))))) (pss_one (ps_ret pe_bl))), ?_⟩
  simp only [seqOr]
  walk_at "rd"
  obtain ⟨n, hn, hn3⟩ : ∃ n : Nat, (if (if (2 : Int) < (ns.length : Int) then (2 : Int) else (ns.length : Int)) > 1 then (if (2 : Int) < (ns.length : Int) then (2 : Int) else (ns.length : Int)) else 1) = (n : Int) ∧ n ≤ 2 := by
    refine ⟨(if (if (2 : Int) < (ns.length : Int) then (2 : Int) else (ns.length : Int)) > 1 then (if (2 : Int) < (ns.length : Int) then (2 : Int) else (ns.length : Int)) else 1).toNat, ?_, ?_⟩ <;> (split <;> split <;> omega)
  refine for_R (n := n) (fun R hR => ?_) (by omega) (fun i σ H' => ∃ o1 o2 o3 o4 o5 o6 o7 o8 o9 o10 o11 o12, σ = [some (.ref p), o1, o2, o3, o4, o5, o6, o7, o8, o9, o10, o11, o12] ∧ Scr K H' p (ns.map V.int)) ⟨_, _, _, _, _, _, _, _, _, _, _, _, rfl, hS⟩ ?_ ?_
  · walk_at "rd"
    refine ⟨p, _, rfl, .inl hS.sq, ?_⟩
    rw [List.length_map]
    walk_at "rd"
    rw [hn]
    exact hR
  · rintro i σ H1 hi ⟨o1, o2, o3, o4, o5, o6, o7, o8, o9, o10, o11, o12, rfl, hS1⟩
    walk_at "rd"
    refine ⟨p, ns, _, rfl, hS1.sq, by omega, by omega, fun a H2 f2 s2 t2 => ?_⟩
    have hS2 := hS1.same s2
    refine Yd.of t2 (by omega) fun pt qa xs t yd H3 ht h5 hG fp fq np nq ep eq A3' t3 s3 => ?_
    have hS3 := hS2.sx t2 s3
    have A3 : AtAll H3 (yd.map nmdP) xs := (A3'.mono hid_sub).mono hid_sub
    have hlx : xs.length = yd.length := by rw [A3.length, List.length_map]
    refine ⟨pt, _, rfl, SqT.of ep, rfl, ?_⟩
    walk_at "rd"
    refine Yw.of ht eq A3 hG h5 fun p4 zs H4 f4 s4 e4 A4 => ?_
    have hm := yardWd_many (t := t) hG
    refine Tx.of e4 A4 (yardWd_G ht hG) (by omega) fun H5 s5 => ?_
    rw [yardWd_tx]
    have s35 := s4.trans s5
    refine ⟨qa, _, rfl, s35 _ _ eq, fun p6 f6 => ?_⟩
    have s6 := same_new f6 (.lst xs)
    have e6 : upd H5 p6 (.lst xs) p6 = some (.lst xs) := upd_same
    generalize upd H5 p6 (.lst xs) = H6 at *
    have s36 := s35.trans s6
    have eq6 := s36 _ _ eq
    have A6 := A3.mono s36
    have n6 : p6 ≠ qa := fun z => by rw [z, s35 _ _ eq] at f6; cases f6
    refine Yt.of ht e6 A6 hG h5 fun H7 s7 => ?_
    refine tSeqO.on (fun H8 s8 => ?_) (fun N hN => ?_)
    rotate_left
    · walk_at "rd"
      refine Ss.of fun H8 s8 => ?_
      have s68 := s7.trans s8
      refine ⟨_, rfl, ?_⟩
      rw [if_neg (by decide)]
      have pl : Pl 6 (.list (yd.map nmdP)) := Pl.lst (Pl.map fun x hx => pl_nmd (hG x hx))
      refine ⟨_, _, At.lst (s68 _ _ e6) (A6.mono s68), At.lst (s68 _ _ eq6) (A6.mono s68), pl.hd, pl.hd, pl.cl, pl.cl, Nat.le_trans pl.dp (by decide), ?_⟩
      rw [pl.eqv]
      rw [if_neg (by decide)]
      exact hN _ s8
    walk_at "rd"
    have s68 := s7.trans s8
    have e8 := s68 _ _ e6
    refine ⟨_, rfl, .inl ⟨rfl, _, SqL.of e8⟩, p6, _, rfl, rfl, e8, ?_⟩
    have A9 : AtAll (upd H8 p6 (.lst xs.reverse)) (yd.map nmdP) xs := by
      have z : AtAll (hid p6 H8) (yd.map nmdP) xs := AtAll.hidL e8 _ _ (noLAll_iff.mpr fun d hd => by obtain ⟨x, _, rfl⟩ := List.mem_map.mp hd; exact nmd_noL x) (A6.mono s68)
      rw [← hid_upd (o := .lst xs.reverse)] at z
      exact z.mono hid_sub
    have eq9 : upd H8 p6 (.lst xs.reverse) qa = some (.lst xs) := by rw [upd_ne (Ne.symm n6)]; exact s68 _ _ eq6
    have hS9 : Scr K (upd H8 p6 (.lst xs.reverse)) p (ns.map V.int) := K70.Scr.updL (hS3.same (s36.trans s68)) e8
    generalize upd H8 p6 (.lst xs.reverse) = H9 at *
    show tFor _ _ _ _ _ _
    rw [tFor_lst]
    walk_at "rd"
    refine LK.of (xs := xs) eq9 (fun j σ H' => ∃ o7 o8 o9 o10 o11 o12, σ = [some (.ref p), some (.int (0 + (i : Nat))), some (.int t), some (.ref qa), some (.str (tx (yardTx t yd))), some (.ref p6), some (.str (tx (yardTx t yd))), o7, o8, o9, o10, o11, o12] ∧ Same H9 H') ⟨_, _, _, _, _, _, rfl, Same.refl _⟩ (fun i σ H' _ h => by obtain ⟨_, _, _, _, _, _, _, s⟩ := h; exact s _ _ eq9) ?_ ?_
    · rintro j y σ H10 hy ⟨o7, o8, o9, o10, o11, o12, rfl, s10⟩
      obtain ⟨e, ee, he⟩ := A9.get hy
      rw [List.getElem?_map] at ee
      cases hg : yd[j]? with
      | none => rw [hg] at ee; cases ee
      | some nm =>
      rw [hg] at ee
      cases ee
      have hnm := hG nm (List.mem_of_getElem? hg)
      obtain ⟨na, pp, rfl, hna, hpv⟩ := nmd_full he
      refine ⟨na, _, rfl, SqT.of (s10 _ _ hna), rfl, ?_⟩
      walk_at "rd"
      rw [tComp_lst]
      walk_at "rd"
      refine Rs.of (hpv.mono s10) hnm.x fun p11 ys H11 f11 s11 e11 A11 => ?_
      have hly : ys.length = (rulesWd nm.x.rss).length := by rw [A11.length, List.length_map]
      have hlr := rulesWd_len hnm.x.r
      have hx3 := hnm.x.n
      refine comp_LS (zs := (rulesWd nm.x.rss).map fun w => tx (jn [32] w)) (fun R hR => hR) e11 (by rw [sizeLine_eq]; omega) (by rw [List.length_map, hly]) (fun j y z H' hy hz s' R hR => ?_) fun acc H12 s12 fa e12 => ?_
      · obtain ⟨e, ee, he⟩ := A11.get hy
        rw [List.getElem?_map] at ee hz
        cases hg2 : (rulesWd nm.x.rss)[j]? with
        | none => rw [hg2] at ee; cases ee
        | some wd =>
        rw [hg2] at ee hz
        cases ee
        cases hz
        obtain ⟨q, rfl, hq⟩ := wd_lst (he.mono s')
        walk_at "rd"
        refine ⟨rfl, _, q, wd.map tx, rfl, rfl, hq, wd_sum ?_, ?_⟩
        · have := yardWd_G (t := 0) (by omega) hG wd (List.mem_cons_of_mem _ (List.mem_flatten.mpr ⟨_, List.mem_map.mpr ⟨nm, List.mem_of_getElem? hg, rfl⟩, List.mem_cons_of_mem _ (List.mem_append_right _ (List.mem_of_getElem? hg2))⟩))
          exact this
        · rw [show Str.ofString " " = tx [32] from rfl, join_tx]
          exact hR _ (Same.refl _)
      have er : ((rulesWd nm.x.rss).map fun w => tx (jn [32] w)) = (rulesTx nm.x.rss).map tx := by rw [← rulesWd_tx, List.map_map]; rfl
      rw [er] at e12
      have s1012 := s11.trans s12
      show tFor _ _ _ _ _ _
      rw [tFor_rng]
      walk_at "rd"
      refine FK.of (n := 2) rfl (by omega) (fun m σ H' => ∃ o11 o12, σ = [some (.ref p), some (.int (0 + (i : Nat))), some (.int t), some (.ref qa), some (.str (tx (yardTx t yd))), some (.ref p6), some (.str (tx (yardTx t yd))), some (.str nm.nm), some pp, some (onV nm.on), some (.ref acc), o11, o12] ∧ Same H12 H') ⟨_, _, rfl, Same.refl _⟩ ?_ ?_
      · rintro m σ H13 hm ⟨o11, o12, rfl, s13⟩
        walk_at "rd"
        refine Pr.of (((hpv.mono s10).mono s1012).mono s13) hnm.x fun p14 H14 f14 s14 e14 => ?_
        have f12 : H12 p14 = none := by
          cases h : H12 p14 with
          | none => rfl
          | some o => rw [s13 _ _ h] at f14; cases f14
        have hlt := rules_len hnm.x.n hnm.x.r
        refine tSeqO.on (fun H15 s15 => ?_) (fun N hN => ?_)
        rotate_left
        · walk_at "rd"
          refine Sl.of (l := (rulesTx nm.x.rss).map tx) (by rw [e14, stv_str]) (s14 _ _ (s13 _ _ e12)) (by rw [List.length_map]; omega) fun H15 s15 => ⟨_, rfl, ?_⟩
          rw [if_neg (by decide)]
          exact hN _ s15
        walk_at "rd"
        have e15 := s15 _ _ e14
        refine ⟨.inl ⟨rfl, _, SqL.of e15⟩, p14, _, _, rfl, rfl, e15, by unfold stv; rw [List.length_map, sizeLine_eq]; omega, ?_⟩
        refine ⟨_, rfl, .inl ⟨rfl, _, SqL.of upd_same⟩, p14, _, rfl, rfl, upd_same, ?_⟩
        exact ⟨_, _, rfl, (((s13.trans s14).trans s15).updN f12).updN f12⟩
      · rintro σ H13 ⟨o11, o12, rfl, s13⟩
        exact ⟨_, _, _, _, _, _, rfl, s10.trans (s1012.trans s13)⟩
    · rintro σ H10 ⟨o7, o8, o9, o10, o11, o12, rfl, s10⟩
      walk_at "rd"
      refine Yt.of ht (s10 _ _ eq9) (A9.mono s10) hG h5 fun H11 s11 => ?_
      walk_at "rd"
      rw [if_neg (by decide)]
      exact ⟨_, _, _, _, _, _, _, _, _, _, _, _, rfl, hS9.same (s10.trans s11)⟩
  · rintro σ H1 ⟨o1, o2, o3, o4, o5, o6, o7, o8, o9, o10, o11, o12, rfl, hS1⟩
    walk_at "rd"
    exact q _
end
end K70
namespace K70
open PySem L2
/-! ### the promises in their order -/
def mkCt {P : Program} {w : World} {K : PySem.W.Frag} {mg : Str → Option Value} {base : Heap} {k : Nat} {x qual : Str} {st : Stmt} {ps : List Str} {sp : Sp} {f : Addr} {fd : FuncData} (F : Fun K x qual st f fd) (b : Binds K fd ps []) (m : mg x = some (.ref f)) (G : FnOk P w K mg base CX0 k f fd ps sp) : Ct P w K mg base k x ps sp := ⟨f, fd, G, F.kp, b, m⟩
theorem all_ok {P : Program} {w : World} {K : PySem.W.Frag} {mg : Str → Option Value} {base : Heap} (B : Bi mg) (O : Co K mg)
    {f0 : Addr} {d0 : FuncData} (F0 : Fun K "yard_text" "yard_text" s_yard_text f0 d0) (b0 : Binds K d0 ["total", "posts"] []) (m0 : mg "yard_text" = some (.ref f0))
    {f1 : Addr} {d1 : FuncData} (F1 : Fun K "head_text" "head_text" s_head_text f1 d1) (b1 : Binds K d1 ["name", "post"] []) (m1 : mg "head_text" = some (.ref f1))
    {f2 : Addr} {d2 : FuncData} (F2 : Fun K "post_rows" "post_rows" s_post_rows f2 d2) (b2 : Binds K d2 ["post"] []) (m2 : mg "post_rows" = some (.ref f2))
    {f3 : Addr} {d3 : FuncData} (F3 : Fun K "row_text" "row_text" s_row_text f3 d3) (b3 : Binds K d3 ["row"] []) (m3 : mg "row_text" = some (.ref f3))
    {f4 : Addr} {d4 : FuncData} (F4 : Fun K "_law_tape" "_law_tape" s_l_tape f4 d4) (b4 : Binds K d4 ["_law_script", "_law_k"] []) (m4 : mg "_law_tape" = some (.ref f4))
    {f5 : Addr} {d5 : FuncData} (F5 : Fun K "_law_draw" "_law_draw" s_l_draw f5 d5) (b5 : Binds K d5 ["_law_tape_here", "_law_many"] []) (m5 : mg "_law_draw" = some (.ref f5))
    {f6 : Addr} {d6 : FuncData} (F6 : Fun K "_law_units" "_law_units" s_l_units f6 d6) (b6 : Binds K d6 ["_law_tape_here"] []) (m6 : mg "_law_units" = some (.ref f6))
    {f7 : Addr} {d7 : FuncData} (F7 : Fun K "_law_same" "_law_same" s_l_same f7 d7) (b7 : Binds K d7 ["_law_found", "_law_due"] []) (m7 : mg "_law_same" = some (.ref f7))
    {f8 : Addr} {d8 : FuncData} (F8 : Fun K "_law_row" "_law_row" s_l_row f8 d8) (b8 : Binds K d8 ["_law_tape_here"] []) (m8 : mg "_law_row" = some (.ref f8))
    {f9 : Addr} {d9 : FuncData} (F9 : Fun K "_law_post" "_law_post" s_l_post f9 d9) (b9 : Binds K d9 ["_law_tape_here", "_law_least"] []) (m9 : mg "_law_post" = some (.ref f9))
    {f10 : Addr} {d10 : FuncData} (F10 : Fun K "_law_names" "_law_names" s_l_names f10 d10) (b10 : Binds K d10 ["_law_tape_here", "_law_many"] []) (m10 : mg "_law_names" = some (.ref f10))
    {f11 : Addr} {d11 : FuncData} (F11 : Fun K "_law_yard" "_law_yard" s_l_yard f11 d11) (b11 : Binds K d11 ["_law_tape_here"] []) (m11 : mg "_law_yard" = some (.ref f11))
    {f12 : Addr} {d12 : FuncData} (F12 : Fun K "_law_row_words" "_law_row_words" s_l_row_words f12 d12) (b12 : Binds K d12 ["_law_row_here"] []) (m12 : mg "_law_row_words" = some (.ref f12))
    {f13 : Addr} {d13 : FuncData} (F13 : Fun K "_law_rules_words" "_law_rules_words" s_l_rules_words f13 d13) (b13 : Binds K d13 ["_law_post_here"] []) (m13 : mg "_law_rules_words" = some (.ref f13))
    {f14 : Addr} {d14 : FuncData} (F14 : Fun K "_law_post_words" "_law_post_words" s_l_post_words f14 d14) (b14 : Binds K d14 ["_law_name", "_law_post_here"] []) (m14 : mg "_law_post_words" = some (.ref f14))
    {f15 : Addr} {d15 : FuncData} (F15 : Fun K "_law_yard_words" "_law_yard_words" s_l_yard_words f15 d15) (b15 : Binds K d15 ["_law_total", "_law_posts"] []) (m15 : mg "_law_yard_words" = some (.ref f15))
    {f16 : Addr} {d16 : FuncData} (F16 : Fun K "_law_text" "_law_text" s_l_text f16 d16) (b16 : Binds K d16 ["_law_rows"] []) (m16 : mg "_law_text" = some (.ref f16))
    {f17 : Addr} {d17 : FuncData} (F17 : Fun K "law" "law" s_law f17 d17) (b17 : Binds K d17 ["_law_script"] []) (m17 : mg "law" = some (.ref f17)) :
    FnOk P w K mg base CX0 6 f17 d17 ["_law_script"] (spLaw K) := by
  have c_row_text : Ct P w K mg base 1 "row_text" ["row"] spRowT := mkCt F3 b3 m3 (ok_row_text F3 B O)
  have c_head_text : Ct P w K mg base 1 "head_text" ["name", "post"] spHt := mkCt F1 b1 m1 (ok_head_text F1 B O)
  have c_post_rows : Ct P w K mg base 2 "post_rows" ["post"] spPr := mkCt F2 b2 m2 (ok_post_rows F2 B O (c_row_text.mono (by decide)))
  have c_yard_text : Ct P w K mg base 3 "yard_text" ["total", "posts"] spYt := mkCt F0 b0 m0 (ok_yard_text F0 B O (c_head_text.mono (by decide)) (c_post_rows.mono (by decide)))
  have c__law_tape : Ct P w K mg base 1 "_law_tape" ["_law_script", "_law_k"] (spTape K) := mkCt F4 b4 m4 (ok_l_tape F4 B)
  have c__law_draw : Ct P w K mg base 1 "_law_draw" ["_law_tape_here", "_law_many"] spDraw := mkCt F5 b5 m5 (ok_l_draw F5 B)
  have c__law_units : Ct P w K mg base 2 "_law_units" ["_law_tape_here"] spUnits := mkCt F6 b6 m6 (ok_l_units F6 B (c__law_draw.mono (by decide)))
  have c__law_same_0 : Ct P w K mg base 1 "_law_same" ["_law_found", "_law_due"] spNo := mkCt F7 b7 m7 (ok_l_same0 F7)
  have c__law_same_S : Ct P w K mg base 2 "_law_same" ["_law_found", "_law_due"] spSs := mkCt F7 b7 m7 (ok_l_sameS F7 B (c__law_same_0.mono (by decide)))
  have c__law_same_L : Ct P w K mg base 3 "_law_same" ["_law_found", "_law_due"] spSl := mkCt F7 b7 m7 (ok_l_sameL F7 B (c__law_same_S.mono (by decide)))
  have c__law_row : Ct P w K mg base 3 "_law_row" ["_law_tape_here"] spRow := mkCt F8 b8 m8 (ok_l_row F8 B (c__law_draw.mono (by decide)) (c__law_units.mono (by decide)))
  have c__law_post : Ct P w K mg base 4 "_law_post" ["_law_tape_here", "_law_least"] spPost := mkCt F9 b9 m9 (ok_l_post F9 B (c__law_draw.mono (by decide)) (c__law_units.mono (by decide)) (c__law_row.mono (by decide)))
  have c__law_names : Ct P w K mg base 2 "_law_names" ["_law_tape_here", "_law_many"] spNm := mkCt F10 b10 m10 (ok_l_names F10 B (c__law_draw.mono (by decide)))
  have c__law_yard : Ct P w K mg base 5 "_law_yard" ["_law_tape_here"] spYd := mkCt F11 b11 m11 (ok_l_yard F11 B (c__law_draw.mono (by decide)) (c__law_names.mono (by decide)) (c__law_post.mono (by decide)))
  have c__law_row_words : Ct P w K mg base 1 "_law_row_words" ["_law_row_here"] spRwd := mkCt F12 b12 m12 (ok_l_row_words F12 B)
  have c__law_rules_words : Ct P w K mg base 2 "_law_rules_words" ["_law_post_here"] spRs := mkCt F13 b13 m13 (ok_l_rules_words F13 B (c__law_row_words.mono (by decide)))
  have c__law_post_words : Ct P w K mg base 1 "_law_post_words" ["_law_name", "_law_post_here"] spPw := mkCt F14 b14 m14 (ok_l_post_words F14 B)
  have c__law_yard_words : Ct P w K mg base 3 "_law_yard_words" ["_law_total", "_law_posts"] spYw := mkCt F15 b15 m15 (ok_l_yard_words F15 B (c__law_post_words.mono (by decide)) (c__law_rules_words.mono (by decide)))
  have c__law_text : Ct P w K mg base 1 "_law_text" ["_law_rows"] spTx := mkCt F16 b16 m16 (ok_l_text F16 B)
  exact ok_law F17 B (c__law_tape.mono (by decide)) (c__law_yard.mono (by decide)) (c__law_text.mono (by decide)) (c__law_yard_words.mono (by decide)) (c_yard_text.mono (by decide)) (c__law_same_S.mono (by decide)) (c__law_same_L.mono (by decide)) (c__law_rules_words.mono (by decide)) (c_post_rows.mono (by decide))
/-! ### the program's top -/
theorem all_mk {l : PySem.W.OpenLaw} {w : World} {K : PySem.W.Frag} {h : Heap} {mg : Str → Option Value} {fa : Addr} (X : K.In h) (G : h.Ns mainGlobals mg) (hfa : mg "law" = some (.ref fa))
    {f0 : Addr} {od0 an0 : Option Addr} {sl0 : Array (Option Value)} {oc0 kV0 dc0 pm0 cd0 ct0 : Value}
    {f1 : Addr} {od1 an1 : Option Addr} {sl1 : Array (Option Value)} {oc1 kV1 dc1 pm1 cd1 ct1 : Value}
    {f2 : Addr} {od2 an2 : Option Addr} {sl2 : Array (Option Value)} {oc2 kV2 dc2 pm2 cd2 ct2 : Value}
    {f3 : Addr} {od3 an3 : Option Addr} {sl3 : Array (Option Value)} {oc3 kV3 dc3 pm3 cd3 ct3 : Value}
    {f4 : Addr} {od4 an4 : Option Addr} {sl4 : Array (Option Value)} {oc4 kV4 dc4 pm4 cd4 ct4 : Value}
    {f5 : Addr} {od5 an5 : Option Addr} {sl5 : Array (Option Value)} {oc5 kV5 dc5 pm5 cd5 ct5 : Value}
    {f6 : Addr} {od6 an6 : Option Addr} {sl6 : Array (Option Value)} {oc6 kV6 dc6 pm6 cd6 ct6 : Value}
    {f7 : Addr} {od7 an7 : Option Addr} {sl7 : Array (Option Value)} {oc7 kV7 dc7 pm7 cd7 ct7 : Value}
    {f8 : Addr} {od8 an8 : Option Addr} {sl8 : Array (Option Value)} {oc8 kV8 dc8 pm8 cd8 ct8 : Value}
    {f9 : Addr} {od9 an9 : Option Addr} {sl9 : Array (Option Value)} {oc9 kV9 dc9 pm9 cd9 ct9 : Value}
    {f10 : Addr} {od10 an10 : Option Addr} {sl10 : Array (Option Value)} {oc10 kV10 dc10 pm10 cd10 ct10 : Value}
    {f11 : Addr} {od11 an11 : Option Addr} {sl11 : Array (Option Value)} {oc11 kV11 dc11 pm11 cd11 ct11 : Value}
    {f12 : Addr} {od12 an12 : Option Addr} {sl12 : Array (Option Value)} {oc12 kV12 dc12 pm12 cd12 ct12 : Value}
    {f13 : Addr} {od13 an13 : Option Addr} {sl13 : Array (Option Value)} {oc13 kV13 dc13 pm13 cd13 ct13 : Value}
    {f14 : Addr} {od14 an14 : Option Addr} {sl14 : Array (Option Value)} {oc14 kV14 dc14 pm14 cd14 ct14 : Value}
    {f15 : Addr} {od15 an15 : Option Addr} {sl15 : Array (Option Value)} {oc15 kV15 dc15 pm15 cd15 ct15 : Value}
    {f16 : Addr} {od16 an16 : Option Addr} {sl16 : Array (Option Value)} {oc16 kV16 dc16 pm16 cd16 ct16 : Value}
    {f17 : Addr} {od17 an17 : Option Addr} {sl17 : Array (Option Value)} {oc17 kV17 dc17 pm17 cd17 ct17 : Value}
    (a0 : PySem.W.nsIn K mainGlobals "yard_text" = some (some (.ref f0))) (l0 : K.lookup f0 = some ⟨oc0, od0, .func (PySem.W.fnOf "yard_text" "yard_text" (defArgs s_yard_text) (defBody s_yard_text) (defScope s_yard_text) .none kV0 dc0 pm0 an0 cd0 ct0), sl0⟩) (c0 : PySem.W.codeIn K cd0 "yard_text" = true) (k0 : PySem.W.keepIn K (.ref f0) = true)
    (a1 : PySem.W.nsIn K mainGlobals "head_text" = some (some (.ref f1))) (l1 : K.lookup f1 = some ⟨oc1, od1, .func (PySem.W.fnOf "head_text" "head_text" (defArgs s_head_text) (defBody s_head_text) (defScope s_head_text) .none kV1 dc1 pm1 an1 cd1 ct1), sl1⟩) (c1 : PySem.W.codeIn K cd1 "head_text" = true) (k1 : PySem.W.keepIn K (.ref f1) = true)
    (a2 : PySem.W.nsIn K mainGlobals "post_rows" = some (some (.ref f2))) (l2 : K.lookup f2 = some ⟨oc2, od2, .func (PySem.W.fnOf "post_rows" "post_rows" (defArgs s_post_rows) (defBody s_post_rows) (defScope s_post_rows) .none kV2 dc2 pm2 an2 cd2 ct2), sl2⟩) (c2 : PySem.W.codeIn K cd2 "post_rows" = true) (k2 : PySem.W.keepIn K (.ref f2) = true)
    (a3 : PySem.W.nsIn K mainGlobals "row_text" = some (some (.ref f3))) (l3 : K.lookup f3 = some ⟨oc3, od3, .func (PySem.W.fnOf "row_text" "row_text" (defArgs s_row_text) (defBody s_row_text) (defScope s_row_text) .none kV3 dc3 pm3 an3 cd3 ct3), sl3⟩) (c3 : PySem.W.codeIn K cd3 "row_text" = true) (k3 : PySem.W.keepIn K (.ref f3) = true)
    (a4 : PySem.W.nsIn K mainGlobals "_law_tape" = some (some (.ref f4))) (l4 : K.lookup f4 = some ⟨oc4, od4, .func (PySem.W.fnOf "_law_tape" "_law_tape" (defArgs s_l_tape) (defBody s_l_tape) (defScope s_l_tape) .none kV4 dc4 pm4 an4 cd4 ct4), sl4⟩) (c4 : PySem.W.codeIn K cd4 "_law_tape" = true) (k4 : PySem.W.keepIn K (.ref f4) = true)
    (a5 : PySem.W.nsIn K mainGlobals "_law_draw" = some (some (.ref f5))) (l5 : K.lookup f5 = some ⟨oc5, od5, .func (PySem.W.fnOf "_law_draw" "_law_draw" (defArgs s_l_draw) (defBody s_l_draw) (defScope s_l_draw) .none kV5 dc5 pm5 an5 cd5 ct5), sl5⟩) (c5 : PySem.W.codeIn K cd5 "_law_draw" = true) (k5 : PySem.W.keepIn K (.ref f5) = true)
    (a6 : PySem.W.nsIn K mainGlobals "_law_units" = some (some (.ref f6))) (l6 : K.lookup f6 = some ⟨oc6, od6, .func (PySem.W.fnOf "_law_units" "_law_units" (defArgs s_l_units) (defBody s_l_units) (defScope s_l_units) .none kV6 dc6 pm6 an6 cd6 ct6), sl6⟩) (c6 : PySem.W.codeIn K cd6 "_law_units" = true) (k6 : PySem.W.keepIn K (.ref f6) = true)
    (a7 : PySem.W.nsIn K mainGlobals "_law_same" = some (some (.ref f7))) (l7 : K.lookup f7 = some ⟨oc7, od7, .func (PySem.W.fnOf "_law_same" "_law_same" (defArgs s_l_same) (defBody s_l_same) (defScope s_l_same) .none kV7 dc7 pm7 an7 cd7 ct7), sl7⟩) (c7 : PySem.W.codeIn K cd7 "_law_same" = true) (k7 : PySem.W.keepIn K (.ref f7) = true)
    (a8 : PySem.W.nsIn K mainGlobals "_law_row" = some (some (.ref f8))) (l8 : K.lookup f8 = some ⟨oc8, od8, .func (PySem.W.fnOf "_law_row" "_law_row" (defArgs s_l_row) (defBody s_l_row) (defScope s_l_row) .none kV8 dc8 pm8 an8 cd8 ct8), sl8⟩) (c8 : PySem.W.codeIn K cd8 "_law_row" = true) (k8 : PySem.W.keepIn K (.ref f8) = true)
    (a9 : PySem.W.nsIn K mainGlobals "_law_post" = some (some (.ref f9))) (l9 : K.lookup f9 = some ⟨oc9, od9, .func (PySem.W.fnOf "_law_post" "_law_post" (defArgs s_l_post) (defBody s_l_post) (defScope s_l_post) .none kV9 dc9 pm9 an9 cd9 ct9), sl9⟩) (c9 : PySem.W.codeIn K cd9 "_law_post" = true) (k9 : PySem.W.keepIn K (.ref f9) = true)
    (a10 : PySem.W.nsIn K mainGlobals "_law_names" = some (some (.ref f10))) (l10 : K.lookup f10 = some ⟨oc10, od10, .func (PySem.W.fnOf "_law_names" "_law_names" (defArgs s_l_names) (defBody s_l_names) (defScope s_l_names) .none kV10 dc10 pm10 an10 cd10 ct10), sl10⟩) (c10 : PySem.W.codeIn K cd10 "_law_names" = true) (k10 : PySem.W.keepIn K (.ref f10) = true)
    (a11 : PySem.W.nsIn K mainGlobals "_law_yard" = some (some (.ref f11))) (l11 : K.lookup f11 = some ⟨oc11, od11, .func (PySem.W.fnOf "_law_yard" "_law_yard" (defArgs s_l_yard) (defBody s_l_yard) (defScope s_l_yard) .none kV11 dc11 pm11 an11 cd11 ct11), sl11⟩) (c11 : PySem.W.codeIn K cd11 "_law_yard" = true) (k11 : PySem.W.keepIn K (.ref f11) = true)
    (a12 : PySem.W.nsIn K mainGlobals "_law_row_words" = some (some (.ref f12))) (l12 : K.lookup f12 = some ⟨oc12, od12, .func (PySem.W.fnOf "_law_row_words" "_law_row_words" (defArgs s_l_row_words) (defBody s_l_row_words) (defScope s_l_row_words) .none kV12 dc12 pm12 an12 cd12 ct12), sl12⟩) (c12 : PySem.W.codeIn K cd12 "_law_row_words" = true) (k12 : PySem.W.keepIn K (.ref f12) = true)
    (a13 : PySem.W.nsIn K mainGlobals "_law_rules_words" = some (some (.ref f13))) (l13 : K.lookup f13 = some ⟨oc13, od13, .func (PySem.W.fnOf "_law_rules_words" "_law_rules_words" (defArgs s_l_rules_words) (defBody s_l_rules_words) (defScope s_l_rules_words) .none kV13 dc13 pm13 an13 cd13 ct13), sl13⟩) (c13 : PySem.W.codeIn K cd13 "_law_rules_words" = true) (k13 : PySem.W.keepIn K (.ref f13) = true)
    (a14 : PySem.W.nsIn K mainGlobals "_law_post_words" = some (some (.ref f14))) (l14 : K.lookup f14 = some ⟨oc14, od14, .func (PySem.W.fnOf "_law_post_words" "_law_post_words" (defArgs s_l_post_words) (defBody s_l_post_words) (defScope s_l_post_words) .none kV14 dc14 pm14 an14 cd14 ct14), sl14⟩) (c14 : PySem.W.codeIn K cd14 "_law_post_words" = true) (k14 : PySem.W.keepIn K (.ref f14) = true)
    (a15 : PySem.W.nsIn K mainGlobals "_law_yard_words" = some (some (.ref f15))) (l15 : K.lookup f15 = some ⟨oc15, od15, .func (PySem.W.fnOf "_law_yard_words" "_law_yard_words" (defArgs s_l_yard_words) (defBody s_l_yard_words) (defScope s_l_yard_words) .none kV15 dc15 pm15 an15 cd15 ct15), sl15⟩) (c15 : PySem.W.codeIn K cd15 "_law_yard_words" = true) (k15 : PySem.W.keepIn K (.ref f15) = true)
    (a16 : PySem.W.nsIn K mainGlobals "_law_text" = some (some (.ref f16))) (l16 : K.lookup f16 = some ⟨oc16, od16, .func (PySem.W.fnOf "_law_text" "_law_text" (defArgs s_l_text) (defBody s_l_text) (defScope s_l_text) .none kV16 dc16 pm16 an16 cd16 ct16), sl16⟩) (c16 : PySem.W.codeIn K cd16 "_law_text" = true) (k16 : PySem.W.keepIn K (.ref f16) = true)
    (a17 : PySem.W.nsIn K mainGlobals "law" = some (some (.ref f17))) (l17 : K.lookup f17 = some ⟨oc17, od17, .func (PySem.W.fnOf "law" "law" (defArgs s_law) (defBody s_law) (defScope s_law) .none kV17 dc17 pm17 an17 cd17 ct17), sl17⟩) (c17 : PySem.W.codeIn K cd17 "law" = true) (k17 : PySem.W.keepIn K (.ref f17) = true)
    (z_abs : PySem.W.nsIn K mainGlobals "abs" = some none)
    (z_len : PySem.W.nsIn K mainGlobals "len" = some none)
    (z_int : PySem.W.nsIn K mainGlobals "int" = some none)
    (z_isinstance : PySem.W.nsIn K mainGlobals "isinstance" = some none)
    (z_str : PySem.W.nsIn K mainGlobals "str" = some none)
    (z_list : PySem.W.nsIn K mainGlobals "list" = some none)
    (z_tuple : PySem.W.nsIn K mainGlobals "tuple" = some none)
    (z_all : PySem.W.nsIn K mainGlobals "all" = some none)
    (z_bool : PySem.W.nsIn K mainGlobals "bool" = some none)
    (z_zip : PySem.W.nsIn K mainGlobals "zip" = some none)
    (z_max : PySem.W.nsIn K mainGlobals "max" = some none)
    (z_range : PySem.W.nsIn K mainGlobals "range" = some none)
    (z_sum : PySem.W.nsIn K mainGlobals "sum" = some none)
    (z_enumerate : PySem.W.nsIn K mainGlobals "enumerate" = some none)
    (z_min : PySem.W.nsIn K mainGlobals "min" = some none)
    {t_EACH : Tok} (n_EACH : PySem.W.nsIn K mainGlobals "EACH" = some (some (.str "each" t_EACH)))
    {t_RULE : Tok} (n_RULE : PySem.W.nsIn K mainGlobals "RULE" = some (some (.str "rule" t_RULE)))
    {t_MORE : Tok} (n_MORE : PySem.W.nsIn K mainGlobals "MORE" = some (some (.str "more" t_MORE)))
    {t_FEWER : Tok} (n_FEWER : PySem.W.nsIn K mainGlobals "FEWER" = some (some (.str "fewer" t_FEWER))) :
    ∃ fd : FuncData, (∀ (s : Shared) (v : Value), BindsTo s fd ⟨[v], []⟩ [("_law_script", v)]) ∧ ∀ base : Heap, K.In base → base.Ns mainGlobals mg → FnOk l.prog w K mg base CX0 6 fa fd ["_law_script"] (spLaw K) := by
  have e := hfa.symm.trans (PySem.W.mg_of X G a17)
  cases e
  have F0 := fun_mk (st := s_yard_text) l0 c0 k0
  have b0 := F0.binds (ps := ["total", "posts"]) fun _ _ _ _ _ _ us hl => match us, hl with | [_, _], _ => rfl
  have F1 := fun_mk (st := s_head_text) l1 c1 k1
  have b1 := F1.binds (ps := ["name", "post"]) fun _ _ _ _ _ _ us hl => match us, hl with | [_, _], _ => rfl
  have F2 := fun_mk (st := s_post_rows) l2 c2 k2
  have b2 := F2.binds (ps := ["post"]) fun _ _ _ _ _ _ us hl => match us, hl with | [_], _ => rfl
  have F3 := fun_mk (st := s_row_text) l3 c3 k3
  have b3 := F3.binds (ps := ["row"]) fun _ _ _ _ _ _ us hl => match us, hl with | [_], _ => rfl
  have F4 := fun_mk (st := s_l_tape) l4 c4 k4
  have b4 := F4.binds (ps := ["_law_script", "_law_k"]) fun _ _ _ _ _ _ us hl => match us, hl with | [_, _], _ => rfl
  have F5 := fun_mk (st := s_l_draw) l5 c5 k5
  have b5 := F5.binds (ps := ["_law_tape_here", "_law_many"]) fun _ _ _ _ _ _ us hl => match us, hl with | [_, _], _ => rfl
  have F6 := fun_mk (st := s_l_units) l6 c6 k6
  have b6 := F6.binds (ps := ["_law_tape_here"]) fun _ _ _ _ _ _ us hl => match us, hl with | [_], _ => rfl
  have F7 := fun_mk (st := s_l_same) l7 c7 k7
  have b7 := F7.binds (ps := ["_law_found", "_law_due"]) fun _ _ _ _ _ _ us hl => match us, hl with | [_, _], _ => rfl
  have F8 := fun_mk (st := s_l_row) l8 c8 k8
  have b8 := F8.binds (ps := ["_law_tape_here"]) fun _ _ _ _ _ _ us hl => match us, hl with | [_], _ => rfl
  have F9 := fun_mk (st := s_l_post) l9 c9 k9
  have b9 := F9.binds (ps := ["_law_tape_here", "_law_least"]) fun _ _ _ _ _ _ us hl => match us, hl with | [_, _], _ => rfl
  have F10 := fun_mk (st := s_l_names) l10 c10 k10
  have b10 := F10.binds (ps := ["_law_tape_here", "_law_many"]) fun _ _ _ _ _ _ us hl => match us, hl with | [_, _], _ => rfl
  have F11 := fun_mk (st := s_l_yard) l11 c11 k11
  have b11 := F11.binds (ps := ["_law_tape_here"]) fun _ _ _ _ _ _ us hl => match us, hl with | [_], _ => rfl
  have F12 := fun_mk (st := s_l_row_words) l12 c12 k12
  have b12 := F12.binds (ps := ["_law_row_here"]) fun _ _ _ _ _ _ us hl => match us, hl with | [_], _ => rfl
  have F13 := fun_mk (st := s_l_rules_words) l13 c13 k13
  have b13 := F13.binds (ps := ["_law_post_here"]) fun _ _ _ _ _ _ us hl => match us, hl with | [_], _ => rfl
  have F14 := fun_mk (st := s_l_post_words) l14 c14 k14
  have b14 := F14.binds (ps := ["_law_name", "_law_post_here"]) fun _ _ _ _ _ _ us hl => match us, hl with | [_, _], _ => rfl
  have F15 := fun_mk (st := s_l_yard_words) l15 c15 k15
  have b15 := F15.binds (ps := ["_law_total", "_law_posts"]) fun _ _ _ _ _ _ us hl => match us, hl with | [_, _], _ => rfl
  have F16 := fun_mk (st := s_l_text) l16 c16 k16
  have b16 := F16.binds (ps := ["_law_rows"]) fun _ _ _ _ _ _ us hl => match us, hl with | [_], _ => rfl
  have F17 := fun_mk (st := s_law) l17 c17 k17
  have b17 := F17.binds (ps := ["_law_script"]) fun _ _ _ _ _ _ us hl => match us, hl with | [_], _ => rfl
  have B : Bi mg := ⟨PySem.W.mg_none_of X G z_abs, PySem.W.mg_none_of X G z_len, PySem.W.mg_none_of X G z_int, PySem.W.mg_none_of X G z_isinstance, PySem.W.mg_none_of X G z_str, PySem.W.mg_none_of X G z_list, PySem.W.mg_none_of X G z_tuple, PySem.W.mg_none_of X G z_all, PySem.W.mg_none_of X G z_bool, PySem.W.mg_none_of X G z_zip, PySem.W.mg_none_of X G z_max, PySem.W.mg_none_of X G z_range, PySem.W.mg_none_of X G z_sum, PySem.W.mg_none_of X G z_enumerate, PySem.W.mg_none_of X G z_min⟩
  have O : Co K mg := ⟨⟨t_EACH, PySem.W.mg_of X G n_EACH⟩, ⟨t_RULE, PySem.W.mg_of X G n_RULE⟩, ⟨t_MORE, PySem.W.mg_of X G n_MORE⟩, ⟨t_FEWER, PySem.W.mg_of X G n_FEWER⟩⟩
  refine ⟨PySem.W.fnOf "law" "law" (defArgs s_law) (defBody s_law) (defScope s_law) .none kV17 dc17 pm17 an17 cd17 ct17, fun s v => .of_eq rfl, fun base _ _ => ?_⟩
  exact all_ok B O F0 b0 (PySem.W.mg_of X G a0) F1 b1 (PySem.W.mg_of X G a1) F2 b2 (PySem.W.mg_of X G a2) F3 b3 (PySem.W.mg_of X G a3) F4 b4 (PySem.W.mg_of X G a4) F5 b5 (PySem.W.mg_of X G a5) F6 b6 (PySem.W.mg_of X G a6) F7 b7 (PySem.W.mg_of X G a7) F8 b8 (PySem.W.mg_of X G a8) F9 b9 (PySem.W.mg_of X G a9) F10 b10 (PySem.W.mg_of X G a10) F11 b11 (PySem.W.mg_of X G a11) F12 b12 (PySem.W.mg_of X G a12) F13 b13 (PySem.W.mg_of X G a13) F14 b14 (PySem.W.mg_of X G a14) F15 b15 (PySem.W.mg_of X G a15) F16 b16 (PySem.W.mg_of X G a16) F17 b17 (PySem.W.mg_of X G a17)
theorem walk {l : PySem.W.OpenLaw} {q : Program} {loose : List Str} {XP : (Str → Option Value) → Heap → Prop} {YP : World → Heap → Prop} {d : DefRec} {K : Params → PySem.W.Frag} (hn : l.most = some 63) (hdf : d.params.defaults = [])
    (hY : ∀ (w : World) (h : Heap), YP w h → (K w.params).In h)
    (F : ∀ (w : World) (mg : Str → Option Value) (fa : Addr) (h : Heap), (K w.params).In h → h.Ns mainGlobals mg → mg d.name = some (.ref fa) →
      ∃ fd : FuncData, (∀ (s : Shared) (u : Value), BindsTo s fd ⟨[u], []⟩ [("_law_script", u)]) ∧ ∀ base : Heap, (K w.params).In base → base.Ns mainGlobals mg → FnOk l.prog w (K w.params) mg base CX0 6 fa fd ["_law_script"] (spLaw (K w.params))) :
    PySem.W.WalkO q loose XP YP l.row.toRowW d [] (fun f vs => PySem.call f vs) :=
  L2.walk_of (n := 63) (k := 6) (x := "_law_script") (CX := fun _ => CX0) (sp := fun w => spLaw (K w.params)) hn (by decide) hdf ⟨rfl, by decide, by decide, rfl⟩ hY F (fun _ _ a ns hl hO hS => ⟨a, ns, rfl, Scr.of hS hO, hl, fun _ => rfl⟩) fun _ _ _ _ _ z => z
end K70
open PySem PySem.W PyProof.Rows
set_option maxRecDepth 100000 in
set_option maxHeartbeats 0 in
theorem PySem.Challenge.cw_waithands_k70_yards_written_holds : PySem.Challenge.rw_waithands_k70_yards_written.Holds := by
  w_on; o_law; k_head; (case hw => w_witness2)
  k_fill
  refine K70.walk (l := PySem.Challenge.rw_waithands_k70_yards_written) rfl rfl (fun w h Y => PySem.W.kIn_of Y) ?F
  case F =>
    intro w mg fa h KX G hmg
    refine' K70.all_mk KX G hmg ?a0 ?l0 ?c0 ?k0 ?a1 ?l1 ?c1 ?k1 ?a2 ?l2 ?c2 ?k2 ?a3 ?l3 ?c3 ?k3 ?a4 ?l4 ?c4 ?k4 ?a5 ?l5 ?c5 ?k5 ?a6 ?l6 ?c6 ?k6 ?a7 ?l7 ?c7 ?k7 ?a8 ?l8 ?c8 ?k8 ?a9 ?l9 ?c9 ?k9 ?a10 ?l10 ?c10 ?k10 ?a11 ?l11 ?c11 ?k11 ?a12 ?l12 ?c12 ?k12 ?a13 ?l13 ?c13 ?k13 ?a14 ?l14 ?c14 ?k14 ?a15 ?l15 ?c15 ?k15 ?a16 ?l16 ?c16 ?k16 ?a17 ?l17 ?c17 ?k17 ?z_abs ?z_len ?z_int ?z_isinstance ?z_str ?z_list ?z_tuple ?z_all ?z_bool ?z_zip ?z_max ?z_range ?z_sum ?z_enumerate ?z_min ?n_EACH ?n_RULE ?n_MORE ?n_FEWER
    (case a0 => k_is)
    (case l0 => k_is)
    (case c0 => k_is)
    (case k0 => k_is)
    (case a1 => k_is)
    (case l1 => k_is)
    (case c1 => k_is)
    (case k1 => k_is)
    (case a2 => k_is)
    (case l2 => k_is)
    (case c2 => k_is)
    (case k2 => k_is)
    (case a3 => k_is)
    (case l3 => k_is)
    (case c3 => k_is)
    (case k3 => k_is)
    (case a4 => k_is)
    (case l4 => k_is)
    (case c4 => k_is)
    (case k4 => k_is)
    (case a5 => k_is)
    (case l5 => k_is)
    (case c5 => k_is)
    (case k5 => k_is)
    (case a6 => k_is)
    (case l6 => k_is)
    (case c6 => k_is)
    (case k6 => k_is)
    (case a7 => k_is)
    (case l7 => k_is)
    (case c7 => k_is)
    (case k7 => k_is)
    (case a8 => k_is)
    (case l8 => k_is)
    (case c8 => k_is)
    (case k8 => k_is)
    (case a9 => k_is)
    (case l9 => k_is)
    (case c9 => k_is)
    (case k9 => k_is)
    (case a10 => k_is)
    (case l10 => k_is)
    (case c10 => k_is)
    (case k10 => k_is)
    (case a11 => k_is)
    (case l11 => k_is)
    (case c11 => k_is)
    (case k11 => k_is)
    (case a12 => k_is)
    (case l12 => k_is)
    (case c12 => k_is)
    (case k12 => k_is)
    (case a13 => k_is)
    (case l13 => k_is)
    (case c13 => k_is)
    (case k13 => k_is)
    (case a14 => k_is)
    (case l14 => k_is)
    (case c14 => k_is)
    (case k14 => k_is)
    (case a15 => k_is)
    (case l15 => k_is)
    (case c15 => k_is)
    (case k15 => k_is)
    (case a16 => k_is)
    (case l16 => k_is)
    (case c16 => k_is)
    (case k16 => k_is)
    (case a17 => k_is)
    (case l17 => k_is)
    (case c17 => k_is)
    (case k17 => k_is)
    (case z_abs => k_is)
    (case z_len => k_is)
    (case z_int => k_is)
    (case z_isinstance => k_is)
    (case z_str => k_is)
    (case z_list => k_is)
    (case z_tuple => k_is)
    (case z_all => k_is)
    (case z_bool => k_is)
    (case z_zip => k_is)
    (case z_max => k_is)
    (case z_range => k_is)
    (case z_sum => k_is)
    (case z_enumerate => k_is)
    (case z_min => k_is)
    (case n_EACH => k_is)
    (case n_RULE => k_is)
    (case n_MORE => k_is)
    (case n_FEWER => k_is)
