import PyProof.Rows.All
import Wide.All
import OpenK.AllK
import Wide.FinOn
import Lean
import PyProof.EqAt
import PyProof.EqKinds
import PyProof.TupleCall
import KE.BitLaws
import KE.IntBitsLaws
import KE.KBits
import PyProof.P3In
import PyProof.Rows.RuleM_int
import PySem.Challenge.RW_linewarden_k36_home_twins
set_option Elab.async false
set_option linter.all false
set_option maxRecDepth 100000
/-! THE HAND LAYER, for ints, bools, texts, own classes, LISTS and tuples (index, slices, in, append, pop ..), calls, loops. Paste it whole ahead of your own text; what your proof does not reach may be deleted. -/
namespace L2
open PySem PySem.Spec PyProof.Rows

/-- a key: an int or a str -/
abbrev Key := Sum Int Str
def keyIs : Key → Value → Bool
  | .inl k, v => Value.isInt k v
  | .inr x, v => Value.isStrOf x v
def keyH (w : World) : Key → Int
  | .inl k => hashInt k
  | .inr x => hashStr w x
theorem keyIs_shape : ∀ {k : Key} {v : Value}, keyIs k v = true → (∃ i t, k = Sum.inl i ∧ v = Value.int i t) ∨ (∃ x t, k = Sum.inr x ∧ v = Value.str x t)
  | .inl i, v, h => by
    obtain ⟨t, e⟩ := Value.isInt_shape (k := i) (v := v) h
    exact .inl ⟨i, t, rfl, e⟩
  | .inr x, v, h => by
    obtain ⟨t, e⟩ := Value.isStrOf_shape (x := x) (v := v) h
    exact .inr ⟨x, t, rfl, e⟩
theorem key_ll (a b : Int) : decide ((Sum.inl a : Key) = Sum.inl b) = (a == b) := by
  by_cases e : a = b
  · subst e; simp
  · have h : ¬ (Sum.inl a : Key) = Sum.inl b := fun q => e (Sum.inl.inj q)
    rw [decide_eq_false h]
    exact (beq_eq_false_iff_ne.mpr e).symm
theorem key_rr (a b : Str) : decide ((Sum.inr a : Key) = Sum.inr b) = decide (a = b) := by
  by_cases e : a = b
  · subst e; simp
  · have h : ¬ (Sum.inr a : Key) = Sum.inr b := fun q => e (Sum.inr.inj q)
    rw [decide_eq_false h, decide_eq_false e]
theorem key_lr (a : Int) (b : Str) : decide ((Sum.inl a : Key) = Sum.inr b) = false := decide_eq_false (fun q => nomatch q)
theorem key_rl (a : Str) (b : Int) : decide ((Sum.inr a : Key) = Sum.inl b) = false := decide_eq_false (fun q => nomatch q)

def mixKind (prog : Program) (w : World) : PySem.KeyKind prog w Key where
  is := keyIs
  hash := keyH w
  inj := fun v a b ha hb => by
    rcases keyIs_shape ha with ⟨i, t, rfl, rfl⟩ | ⟨x, t, rfl, rfl⟩
    · rcases keyIs_shape hb with ⟨j, u, rfl, e⟩ | ⟨y, u, rfl, e⟩
      · injection e with e1 _; rw [e1]
      · exact nomatch e
    · rcases keyIs_shape hb with ⟨j, u, rfl, e⟩ | ⟨y, u, rfl, e⟩
      · exact nomatch e
      · injection e with e1 _; rw [e1]
  byValue := fun k v h => by
    rcases keyIs_shape h with ⟨i, t, rfl, rfl⟩ | ⟨x, t, rfl, rfl⟩ <;> rfl
  pyHash := fun hv h => by
    rcases keyIs_shape hv with ⟨i, t, rfl, rfl⟩ | ⟨x, t, rfl, rfl⟩
    · exact wpAny_pyHash_int h
    · exact wpAny_pyHash_str h
  eqBool := fun hu hv h => by
    rcases keyIs_shape hu with ⟨i, t, rfl, rfl⟩ | ⟨x, t, rfl, rfl⟩
    · rcases keyIs_shape hv with ⟨j, u, rfl, rfl⟩ | ⟨y, u, rfl, rfl⟩
      · rw [key_ll] at h; exact wpAny_eqBool_int h
      · rw [key_lr] at h; exact SeqAt.EqAt.int_str i t y u _ _ _ _ h
    · rcases keyIs_shape hv with ⟨j, u, rfl, rfl⟩ | ⟨y, u, rfl, rfl⟩
      · rw [key_rl] at h; exact SeqAt.EqAt.str_int x t j u _ _ _ _ h
      · rw [key_rr] at h; exact wpAny_eqBool_str h
  «strs» := fun k x t v h => by
    rcases keyIs_shape h with ⟨i, u, rfl, e⟩ | ⟨y, u, rfl, e⟩
    · exact nomatch e
    · injection e with e1 _
      subst e1
      cases v <;> rfl

end L2

namespace L2
open PySem PySem.Spec PyProof.Rows

/-- a value, without the heap -/
inductive V where
  | non | bl (b : Bool) | int (i : Int) | str (x : Str) | byt (b : Array UInt8) | flt (b : UInt64) | ref (a : Addr) | ty (n : String)
  deriving DecidableEq

def RelV : V → Value → Prop
  | .non, u => u = Value.none
  | .bl b, u => u = Value.bool b
  | .int i, u => ∃ t, u = Value.int i t
  | .str x, u => ∃ t, u = Value.str x t
  | .byt b, u => ∃ t, u = Value.bytes b t
  | .flt b, u => ∃ t, u = Value.float b t
  | .ref a, u => u = Value.ref a
  | .ty n, u => u = Value.type n

abbrev Vals : List V → List Value → Prop := Paired RelV
theorem Vals.length {xs : List V} {us : List Value} (r : Vals xs us) : xs.length = us.length := Paired.length r
theorem Vals.get : ∀ {xs : List V} {us : List Value} {i : Nat} {x : V}, Vals xs us → xs[i]? = some x → ∃ u, us[i]? = some u ∧ RelV x u
  | _, _, _, _, .nil, e => by simp at e
  | _, _, 0, _, .cons r _, e => by simp at e; subst e; exact ⟨_, rfl, r⟩
  | _, _, i + 1, x, .cons _ t, e => by
    obtain ⟨u, h1, h2⟩ := Vals.get (i := i) (x := x) t (by simpa using e)
    exact ⟨u, by simpa using h1, h2⟩
theorem Vals.set {x : V} {u : Value} (r : RelV x u) : ∀ {xs : List V} {us : List Value} (i : Nat), Vals xs us → Vals (xs.set i x) (us.set i u)
  | _, _, _, .nil => .nil
  | _, _, 0, .cons _ t => .cons r t
  | _, _, i + 1, .cons q t => .cons q (Vals.set r i t)
theorem Vals.append : ∀ {xs ys : List V} {us ws : List Value}, Vals xs us → Vals ys ws → Vals (xs ++ ys) (us ++ ws)
  | _, _, _, _, .nil, s => s
  | _, _, _, _, .cons r t, s => .cons r (Vals.append t s)
theorem Vals.take : ∀ {xs : List V} {us : List Value} (n : Nat), Vals xs us → Vals (xs.take n) (us.take n)
  | _, _, 0, _ => .nil
  | _, _, _ + 1, .nil => .nil
  | _, _, n + 1, .cons r t => .cons r (Vals.take n t)
theorem Vals.drop : ∀ {xs : List V} {us : List Value} (n : Nat), Vals xs us → Vals (xs.drop n) (us.drop n)
  | _, _, 0, r => r
  | _, _, _ + 1, .nil => .nil
  | _, _, n + 1, .cons _ t => Vals.drop n t
theorem Vals.none_of : ∀ {xs : List V} {us : List Value} {i : Nat}, Vals xs us → xs[i]? = none → us[i]? = none := fun {xs us i} r e => by
  have h1 := r.length
  have h2 : xs.length ≤ i := List.getElem?_eq_none_iff.mp e
  exact List.getElem?_eq_none_iff.mpr (by omega)

def RelO : Option V → Option Value → Prop
  | some v, some u => RelV v u
  | none, none => True
  | _, _ => False
def KV {κ : Type} : List (κ × V) → List (κ × Value) → Prop := Paired fun (p : κ × V) (q : κ × Value) => p.1 = q.1 ∧ RelV p.2 q.2

/-- a key of a dict (00_mix): an int or a text -/
def kV : Key → V
  | .inl i => .int i
  | .inr x => .str x

/-- what stands at a tracked address -/
inductive HO where
  /-- a list -/
  | lst (xs : List V)
  /-- a tuple (never changes) -/
  | tup (xs : List V)
  /-- a dict whose keys are ints and texts; one whose keys are tuples of ints and texts (the empty one is both) -/
  | dK (kvs : List (Key × V)) | dT (kvs : List (List Key × V))
  /-- a set of ints: its members, its size -/
  | set (S : Int → Bool) (n : Nat)
  /-- an instance of the class at C, its dict at dx, its attributes -/
  | ins (C dx : Addr) (fs : List (Str × V))
  /-- the dict of the instance at x -/
  | own (x : Addr)
  /-- the dict of an exception -/
  | xd (fs : List (Str × V))
  /-- a bound method, f of x -/
  | met (f x : Addr)
  /-- a range object lo, lo + 1, .. below hi -/
  | rng (lo hi : Int)
  /-- a thing that is known to the object (the script; a dict while a loop walks it): read, never written while it is so -/
  | frz (o : Obj) (u : HO)
  /-- a code object's table -/
  | tbl (ps : Array Value)
  /-- any other thing, by what is true of its one object (a def of one's own: SetO a S n := HO.ext fun h => ..) -/
  | ext (φ : Heap → Prop)

abbrev Hp := Addr → Option HO
def upd (H : Hp) (a : Addr) (o : HO) : Hp := fun b => if b = a then some o else H b
theorem upd_same {H : Hp} {a : Addr} {o : HO} : upd H a o a = some o := by unfold upd; rw [if_pos rfl]
theorem upd_ne {H : Hp} {a b : Addr} {o : HO} (h : b ≠ a) : upd H a o b = H b := by unfold upd; rw [if_neg h]
theorem upd_upd {H : Hp} {a : Addr} {o u : HO} : upd (upd H a o) a u = upd H a u := by
  funext b; unfold upd; split <;> rfl
/-- two objects of different content stand apart -/
theorem ne_of {H : Hp} {a b : Addr} {o u : HO} (h : H a = some o) (h' : H b = some u) (d : o ≠ u) : a ≠ b := by
  intro e; subst e; rw [h] at h'; exact d (Option.some.inj h')
theorem ne_of_none {H : Hp} {a b : Addr} {o : HO} (h : H a = some o) (h' : H b = none) : a ≠ b := by
  intro e; subst e; rw [h] at h'; cases h'

section
variable (P : Program) (w : World)
def ObjOk (H : Hp) (h : Heap) (a : Addr) : HO → Prop
  | .lst xs => xs.length ≤ sizeLine ∧ ∃ (its : List Value) (n : Nat), Vals xs its ∧ h.get? a = some { cls := .type "list", data := .seq its.toArray n }
  | .tup xs => xs.length ≤ sizeLine ∧ ∃ its : List Value, Vals xs its ∧ IsTup h a its.toArray
  | .dK kvs => kvs.length ≤ sizeLine ∧ (a == sysModules) = false ∧ ∃ vs, KV kvs vs ∧ h.DictOf (mixKind P w) a vs
  | .dT kvs => kvs.length ≤ sizeLine ∧ (a == sysModules) = false ∧ ∃ xs : List (List Key × Addr × Value),
      Paired (fun (p : List Key × V) (q : List Key × Addr × Value) => p.1 = q.1 ∧ H q.2.1 = some (.tup (p.1.map kV)) ∧ RelV p.2 q.2.2) kvs xs ∧
      ∃ o es ep, h.get? a = some o ∧ o.ExactDict ∧ o.data = .dict es ep ∧ es.toList = xs.map (entryOfKey (tupleKind (mixKind P w))) ∧ (xs.map (·.1)).Nodup
  | .set S n => h.SetOf (intKind P w) a S n
  | .ins C dx fs => H dx = some (.own a) ∧ fs.length ≤ 1000 ∧ dx ≠ a ∧ h.get? a = some (PySem.W.instObj C dx) ∧
      ∃ mA, h.Ns1 dx mA ∧ (∀ f, RelO (fs.lookup f) (mA f)) ∧ PySem.Within mA (fs.map (·.1))
  | .own _ => ∃ o, h.get? a = some o
  | .xd fs => ∃ mA, h.Ns1 a mA ∧ ∀ f, RelO (fs.lookup f) (mA f)
  | .rng lo hi => ∃ t u v, h.get? a = some { cls := .type "range", data := .fields #[.int lo t, .int hi u, .int 1 v] }
  | .frz o u => h.get? a = some o ∧ ObjOk H h a u
  | .tbl ps => h.get? a = some { cls := .none, data := .fields ps }
  | .met f x => h.get? a = some (PySem.W.methodObj (.ref f) (.ref x))
  | .ext φ => φ h ∧ (∃ o, h.get? a = some o) ∧ ∀ h1 h2 : Heap, φ h1 → (∀ o, h1.get? a = some o → h2.get? a = some o) → φ h2
/-- the abstract heap is held -/
def HOk (H : Hp) (h : Heap) : Prop := ∀ a o, H a = some o → ObjOk P w H h a o
end

section
variable {P : Program} {w : World} {H H' : Hp} {h h' : Heap} {a : Addr} {o : HO}
theorem ObjOk.lt (x : ObjOk P w H h a o) : a < h.objs.size := by
  cases o with
  | lst xs => obtain ⟨_, _, _, _, e⟩ := x; exact Heap.lt_size e
  | tup xs => obtain ⟨_, _, _, p⟩ := x; exact p.lt
  | dK kvs => obtain ⟨_, _, _, _, o, _, _, e, _⟩ := x; exact Heap.lt_size e
  | dT kvs => obtain ⟨_, _, _, _, o, _, _, e, _⟩ := x; exact Heap.lt_size e
  | set S n => obtain ⟨o, _, _, _, e, _⟩ := x; exact Heap.lt_size e
  | ins C dx fs => obtain ⟨_, _, _, e, _⟩ := x; exact Heap.lt_size e
  | own y => obtain ⟨_, e⟩ := x; exact Heap.lt_size e
  | xd fs => obtain ⟨_, ⟨_, _, _, e, _⟩, _⟩ := x; exact Heap.lt_size e
  | rng lo hi => obtain ⟨_, _, _, e⟩ := x; exact Heap.lt_size e
  | frz ob u => obtain ⟨e, _⟩ := x; exact Heap.lt_size e
  | tbl ps => exact Heap.lt_size (show h.get? a = some _ from x)
  | met f y => exact Heap.lt_size (show h.get? a = some _ from x)
  | ext φ => obtain ⟨_, ⟨_, e⟩, _⟩ := x; exact Heap.lt_size e
theorem Paired.mapP {α β : Type} {F G : α → β → Prop} : ∀ {l₁ : List α} {l₂ : List β}, Paired F l₁ l₂ → (∀ a b, F a b → G a b) → Paired G l₁ l₂
  | _, _, .nil, _ => .nil
  | _, _, .cons r t, f => .cons (f _ _ r) (Paired.mapP t f)
/-- what an object's description leans on: its own object, its own dict, the tuples -/
theorem ObjOk.stay (x : ObjOk P w H h a o) (k : ∀ b u, (b = a ∨ H b = some (.own a)) → h.get? b = some u → h'.get? b = some u)
    (ho : ∀ b, H b = some (.own a) → H' b = some (.own a)) (ht : ∀ b xs, H b = some (.tup xs) → H' b = some (.tup xs)) : ObjOk P w H' h' a o := by
  induction o with
  | lst xs => obtain ⟨z, its, n, r, e⟩ := x; exact ⟨z, its, n, r, k _ _ (.inl rfl) e⟩
  | tup xs => obtain ⟨z, its, r, ob, e, c⟩ := x; exact ⟨z, its, r, ob, k _ _ (.inl rfl) e, c⟩
  | dK kvs => obtain ⟨z, y, vs, r, ob, es, ep, e, c⟩ := x; exact ⟨z, y, vs, r, ob, es, ep, k _ _ (.inl rfl) e, c⟩
  | dT kvs =>
    obtain ⟨z, y, xs, r, ob, es, ep, e, c⟩ := x
    exact ⟨z, y, xs, Paired.mapP r fun p q z => ⟨z.1, ht _ _ z.2.1, z.2.2⟩, ob, es, ep, k _ _ (.inl rfl) e, c⟩
  | set S n => obtain ⟨ob, es, ep, t, e, c⟩ := x; exact ⟨ob, es, ep, t, k _ _ (.inl rfl) e, c⟩
  | ins C dx fs =>
    obtain ⟨d, z, ne, e, mA, ⟨od, es, ep, e2, c⟩, r⟩ := x
    exact ⟨ho _ d, z, ne, k _ _ (.inl rfl) e, mA, ⟨od, es, ep, k _ _ (.inr d) e2, c⟩, r⟩
  | own y => obtain ⟨ob, e⟩ := x; exact ⟨ob, k _ _ (.inl rfl) e⟩
  | xd fs => obtain ⟨mA, ⟨od, es, ep, e, c⟩, r⟩ := x; exact ⟨mA, ⟨od, es, ep, k _ _ (.inl rfl) e, c⟩, r⟩
  | rng lo hi => obtain ⟨t, u, v, e⟩ := x; exact ⟨t, u, v, k _ _ (.inl rfl) e⟩
  | frz ob u ih => obtain ⟨e, q⟩ := x; exact ⟨k _ _ (.inl rfl) e, ih q⟩
  | tbl ps =>
    have e : h.get? a = some { cls := .none, data := .fields ps } := x
    show h'.get? a = some { cls := .none, data := .fields ps }
    exact k a _ (.inl rfl) e
  | met f y =>
    have e : h.get? a = some (PySem.W.methodObj (.ref f) (.ref y)) := x
    show h'.get? a = some (PySem.W.methodObj (.ref f) (.ref y))
    exact k a _ (.inl rfl) e
  | ext φ => obtain ⟨p, ⟨o, e⟩, st⟩ := x; exact ⟨st _ _ p fun o q => k _ _ (.inl rfl) q, ⟨o, k _ _ (.inl rfl) e⟩, st⟩
theorem HOk.lt (x : HOk P w H h) (e : H a = some o) : a < h.objs.size := (x a o e).lt
theorem HOk.fresh (x : HOk P w H h) (e : h.objs.size ≤ a) : H a = none := by
  cases q : H a with
  | none => rfl
  | some u => exact absurd (Nat.lt_of_lt_of_le (x.lt q) e) (Nat.lt_irrefl _)
/-- every object of the heap is kept -/
theorem HOk.kept (x : HOk P w H h) (k : ∀ b u, h.get? b = some u → h'.get? b = some u) : HOk P w H h' := fun a o e =>
  (x a o e).stay (fun b u _ q => k b u q) (fun _ q => q) fun _ _ q => q
/-- a new object is laid and tracked -/
theorem HOk.laid (x : HOk P w H h) (k : ∀ b u, h.get? b = some u → h'.get? b = some u) (hp : h.objs.size ≤ a) (new : ObjOk P w (upd H a o) h' a o) : HOk P w (upd H a o) h' := fun b u e => by
  have hn := x.fresh hp
  by_cases hb : b = a
  · subst hb; rw [upd_same] at e; cases e; exact new
  · rw [upd_ne hb] at e
    exact (x b u e).stay (fun c v _ q => k c v q) (fun c q => by rw [upd_ne (ne_of_none q hn)]; exact q) fun c xs q => by rw [upd_ne (ne_of_none q hn)]; exact q
end

/-- what may be read as u: it is u, or a known u -/
def Rd (H : Hp) (a : Addr) (u : HO) : Prop := H a = some u ∨ ∃ o, H a = some (.frz o u)
theorem Rd.of {H : Hp} {a : Addr} {u : HO} (h : H a = some u) : Rd H a u := .inl h
theorem Rd.ok {P : Program} {w : World} {H : Hp} {h : Heap} {a : Addr} {u : HO} (r : Rd H a u) (x : HOk P w H h) : ObjOk P w H h a u := by
  rcases r with r | ⟨o, r⟩
  · exact x a u r
  · obtain ⟨_, q⟩ := x a _ r
    exact q
/-- what may be written -/
def Mut : Option HO → Prop
  | some (.lst _) => True
  | some (.dK _) => True
  | some (.dT _) => True
  | some (.set _ _) => True
  | some (.ins _ _ _) => True
  | some (.ext _) => True
  | _ => False
section
variable {P : Program} {w : World} {H : Hp} {h h' : Heap} {x e : Addr} {o' : HO}
/-- the object at e is changed: x itself, or the dict of the instance x -/
theorem HOk.write (ok : HOk P w H h) (mu : Mut (H x)) (he : e = x ∨ H e = some (.own x)) (k : ∀ b u, b ≠ e → h.get? b = some u → h'.get? b = some u) (heo : ∃ u, h'.get? e = some u)
    (new : ObjOk P w (upd H x o') h' x o') : HOk P w (upd H x o') h' := fun b u q => by
  have nown : ∀ c y, H c = some (.own y) → c ≠ x := fun c y r z => by subst z; rw [r] at mu; exact mu
  have ntup : ∀ c xs, H c = some (.tup xs) → c ≠ x := fun c xs r z => by subst z; rw [r] at mu; exact mu
  by_cases hb : b = x
  · subst hb; rw [upd_same] at q; cases q; exact new
  · rw [upd_ne hb] at q
    by_cases hbe : b = e
    · have q' : H b = some (.own x) := by
        rcases he with z | z
        · exact absurd (hbe.trans z) hb
        · rw [hbe]; exact z
      rw [q] at q'; cases q'
      obtain ⟨v, hv⟩ := heo
      exact ⟨v, by rw [hbe]; exact hv⟩
    · refine (ok b u q).stay (fun c v hc r => k c v ?_ r) (fun c r => by rw [upd_ne (nown c b r)]; exact r) fun c xs r => by rw [upd_ne (ntup c xs r)]; exact r
      rcases hc with rfl | hc
      · exact hbe
      · rintro rfl
        rcases he with z | z
        · exact nown c b hc z
        · rw [hc] at z; cases z; exact hb rfl
end

/-! ### kept unless tracked; of the frames at fs (the callers') the slots may change (an exception that passes writes there); of the records at ex (iterators) nothing is said -/
structure Un (fs ex : List Addr) (H H' : Hp) (h h' : Heap) : Prop where
  keep : ∀ b o, h.get? b = some o → H b = none → b ∉ fs → b ∉ ex → h'.get? b = some o
  slot : ∀ b o, h.get? b = some o → H b = none → b ∈ fs → b ∉ ex → ∃ sl, h'.get? b = some { o with slots := sl }
  free : ∀ b o, h.get? b = some o → H b = none → b ∉ ex → H' b = none
  there : ∀ b o, h.get? b = some o → b ∉ ex → ∃ o', h'.get? b = some o'
  tups : ∀ b xs, H b = some (.tup xs) → H' b = some (.tup xs)
  frzs : ∀ b o u, H b = some (.frz o u) → H' b = some (.frz o u)
  tbls : ∀ b ps, H b = some (.tbl ps) → ∃ more, H' b = some (.tbl (ps ++ more))
section
variable {fs fs' ex ex' : List Addr} {H H1 H2 : Hp} {h h1 h2 h' : Heap} {a x e : Addr} {o : HO}
theorem Un.any (u : Un fs ex H H1 h h1) {b : Addr} {ob : Obj} (q : h.get? b = some ob) (n : H b = none) (hx : b ∉ ex) : ∃ sl, h1.get? b = some { ob with slots := sl } := by
  by_cases hb : b ∈ fs
  · exact u.slot b ob q n hb hx
  · exact ⟨ob.slots, u.keep b ob q n hb hx⟩
theorem Un.trans (a : Un fs ex H H1 h h1) (b : Un fs ex H1 H2 h1 h2) : Un fs ex H H2 h h2 where
  keep := fun c ob q n hc hx => b.keep c ob (a.keep c ob q n hc hx) (a.free c ob q n hx) hc hx
  slot := fun c ob q n hc hx => by
    obtain ⟨sl, e1⟩ := a.slot c ob q n hc hx
    obtain ⟨sl', e2⟩ := b.slot c _ e1 (a.free c ob q n hx) hc hx
    exact ⟨sl', e2⟩
  free := fun c ob q n hx => by
    obtain ⟨o', e1⟩ := a.there c ob q hx
    exact b.free c o' e1 (a.free c ob q n hx) hx
  there := fun c ob q hx => by
    obtain ⟨o', e1⟩ := a.there c ob q hx
    exact b.there c o' e1 hx
  tups := fun c xs q => b.tups c xs (a.tups c xs q)
  frzs := fun c ob xs q => b.frzs c ob xs (a.frzs c ob xs q)
  tbls := fun c ps q => by
    obtain ⟨m1, e1⟩ := a.tbls c ps q
    obtain ⟨m2, e2⟩ := b.tbls c _ e1
    exact ⟨m1 ++ m2, by rw [e2, Array.append_assoc]⟩
theorem Un.kept (k : ∀ b u, h.get? b = some u → h'.get? b = some u) : Un fs ex H H h h' :=
  ⟨fun b ob q _ _ _ => k b ob q, fun b ob q _ _ _ => ⟨ob.slots, k b ob q⟩, fun _ _ _ n _ => n, fun b ob q _ => ⟨ob, k b ob q⟩, fun _ _ q => q, fun _ _ _ q => q, fun _ ps q => ⟨#[], by rw [q]; simp⟩⟩
theorem Un.refl : Un fs ex H H h h := Un.kept fun _ _ q => q
theorem Un.laid (k : ∀ b u, h.get? b = some u → h'.get? b = some u) (hp : h.objs.size ≤ a) (hn : H a = none) : Un fs ex H (upd H a o) h h' where
  keep := fun b u q _ _ _ => k b u q
  slot := fun b u q _ _ _ => ⟨u.slots, k b u q⟩
  free := fun b u q n _ => by rw [upd_ne (Nat.ne_of_lt (Nat.lt_of_lt_of_le (Heap.lt_size q) hp))]; exact n
  there := fun b u q _ => ⟨u, k b u q⟩
  tups := fun b xs q => by rw [upd_ne (ne_of_none q hn)]; exact q
  frzs := fun b u xs q => by rw [upd_ne (ne_of_none q hn)]; exact q
  tbls := fun b ps q => ⟨#[], by rw [upd_ne (ne_of_none q hn), q]; simp⟩
theorem Un.write (mu : Mut (H x)) (he : e = x ∨ H e = some (.own x)) (k : ∀ b u, b ≠ e → h.get? b = some u → h'.get? b = some u) (heo : ∃ u, h'.get? e = some u) : Un fs ex H (upd H x o) h h' := by
  have hx : ∀ b, H b = none → b ≠ x := fun b n z => by subst z; rw [n] at mu; exact mu
  have hb : ∀ b, H b = none → b ≠ e := fun b n z => by
    subst z
    rcases he with r | r
    · exact hx b n r
    · rw [n] at r; cases r
  have hm : ∀ b u, H b = some u → ¬ Mut (some u) → b ≠ x := fun b u q nm z => by subst z; rw [q] at mu; exact nm mu
  refine ⟨fun b u q n _ _ => k b u (hb b n) q, fun b u q n _ _ => ⟨u.slots, k b u (hb b n) q⟩, fun b u q n _ => by rw [upd_ne (hx b n)]; exact n, fun b u q _ => ?_,
    fun b xs q => by rw [upd_ne (hm b _ q fun z => z)]; exact q, fun b u xs q => by rw [upd_ne (hm b _ q fun z => z)]; exact q, fun b ps q => ⟨#[], by rw [upd_ne (hm b _ q fun z => z), q]; simp⟩⟩
  by_cases hbe : b = e
  · subst hbe; exact heo
  · exact ⟨u, k b u hbe q⟩
theorem Un.mono (u : Un fs ex H H1 h h1) (hs : ∀ b ∈ fs, b ∈ fs') (hx : ∀ b ∈ ex, b ∈ ex') : Un fs' ex' H H1 h h1 :=
  ⟨fun b ob q n hb he => u.keep b ob q n (fun z => hb (hs b z)) fun z => he (hx b z), fun _ _ q n _ he => u.any q n fun z => he (hx _ z), fun b ob q n he => u.free b ob q n fun z => he (hx b z), fun b ob q he => u.there b ob q fun z => he (hx b z), u.tups, u.frzs, u.tbls⟩
end

/-! ### the heap without what is tracked -/
def trk (h : Heap) (H : Hp) : List Addr := (List.range h.objs.size).filter fun a => (H a).isSome
def hidT (h : Heap) (H : Hp) : Heap := PySem.W.hideAll h (trk h H)
theorem hidT_size (h : Heap) (H : Hp) : (hidT h H).objs.size = h.objs.size := PySem.W.hideAll_size _ _
theorem hidT_get {h : Heap} {H : Hp} {b : Addr} {o : Obj} (e : h.get? b = some o) (n : H b = none) : (hidT h H).get? b = some o :=
  PySem.W.hideAll_get _ e fun hm => by
    have q : (H b).isSome = true := (List.mem_filter.mp hm).2
    rw [n] at q; simp at q
theorem of_hidT {h : Heap} {H : Hp} {b : Addr} {o : Obj} (e : (hidT h H).get? b = some o) : h.get? b = some o ∧ H b = none := by
  have e' : h.get? b = some o := PySem.W.of_hideAll (trk h H) e
  refine ⟨e', ?_⟩
  cases q : H b with
  | none => rfl
  | some x =>
    have hm : b ∈ trk h H := List.mem_filter.mpr ⟨List.mem_range.mpr (Heap.lt_size e'), by simp [q]⟩
    have z : (hidT h H).get? b = none := PySem.W.hideAll_none (trk h H) hm
    rw [z] at e; cases e

/-! ### OpenK's ledger, filled with every new object but one -/
def allNews (g h : Heap) (L : Addr) : List (Addr × Obj) := (List.range h.objs.size).filterMap fun a => if a = L ∨ (g.get? a).isSome = true then none else (h.get? a).map fun o => (a, o)
def rest (g h : Heap) (L d : Addr) : List (Addr × Obj) := (allNews g h L).filter fun p => decide (p.1 ≠ d)
end L2

namespace L2
open PySem PySem.Spec PyProof.Rows

/-- the module's facts, over the base: the heap at the law's entry without what is tracked there -/
structure Mod (K : PySem.W.Frag) (mg : Str → Option Value) (base : Heap) : Prop where
  kin : K.In base
  glob : base.Ns mainGlobals mg
  blt : ∃ mb, base.Ns builtinsNs mb ∧ ∀ x : Str, x ≠ "__name__" → mb x = bootBuiltins x
  nolimit : base.NoLimit

/-- the context: a def's body (or a comprehension's block) running. base: fixed through the whole law; s₀, H₀: the entry; outer: the frames whose slots others may change (a def's callers); stack: all frames that run;
   ex: iterators that were made ahead of the entry and are walked here (a comprehension's); fn: the names whose cells were made at the entry (a def: all; a comprehension's block: its own); calm: not within an except suite; pn: pins that every state bears; xe: what is wanted of an exception that leaves the code -/
structure Cx where
  prog : Program
  w : World
  K : PySem.W.Frag
  mg : Str → Option Value
  base : Heap
  A : Around
  N : List Str
  s₀ : Shared
  H₀ : Hp
  env : Env
  outer : List Env
  stack : List Env
  ex : List Addr
  fn : Str → Bool
  calm : Bool
  pn : List (Addr × Obj)
  xe : Value → Shared → Prop
/-- the callers' frames -/
def frs (l : List Env) : List Addr := l.filterMap (·.frame)
abbrev Cx.fs (X : Cx) : List Addr := frs X.outer

def Vis (sc : Scope) (x : Str) : Prop := sc.names.lookup x = some .local ∨ sc.names.lookup x = some .cell ∨ sc.names.lookup x = some .free
def Loc (sc : Scope) (x : Str) : Prop := sc.names.lookup x = some .local ∨ sc.names.lookup x = some .cell
def Look (env : Env) (h : Heap) (m : Str → Option Value) (x : Str) (u : Value) : Prop :=
  (env.kindOf x = some .local ∧ m x = some u) ∨ ((env.kindOf x = some .cell ∨ env.kindOf x = some .free) ∧ ∃ c, env.cells.lookup x = some c ∧ h.IsCell c (some u))

structure Cx.Ok (X : Cx) : Prop where
  mod : Mod X.K X.mg X.base
  kind : X.env.scope.kind = .function
  glob : X.env.globals = mainGlobals
  blt : X.env.builtins = builtinsNs
  above : X.s₀.heap.objs.size ≤ X.env.locals
  inj : ∀ x y c, X.env.cells.lookup x = some c → X.env.cells.lookup y = some c → x = y
  has : ∀ x, (X.env.kindOf x = some .cell ∨ X.env.kindOf x = some .free) → ∃ c, X.env.cells.lookup x = some c
  cab : ∀ x c, X.fn x = true → X.env.cells.lookup x = some c → X.s₀.heap.objs.size ≤ c
  hd : X.calm = true → X.A.handled = none
  frames : X.A.frames = some X.stack
  stk : X.stack = X.outer ∨ (X.stack = X.env :: X.outer ∧ X.env.frame = some X.env.locals)
  exf : ∀ b ∈ X.ex, b ≠ X.env.locals ∧ ∀ x c, X.env.cells.lookup x = some c → c ≠ b
  bs : ∀ b o, X.base.get? b = some o → X.s₀.heap.get? b = some o ∧ X.H₀ b = none
  bsz : X.base.objs.size ≤ X.s₀.heap.objs.size
  noex : ∀ b o, X.base.get? b = some o → b ∉ X.ex
  exfs : ∀ b ∈ X.ex, b ∉ X.fs
  funs : X.s₀.heap.FunFrames X.base X.outer
  frf : ∀ b ∈ X.fs, X.H₀ b = none

structure Inv (X : Cx) (pins : List (Addr × Obj)) (σ : List (Option V)) (H : Hp) (s : Shared) : Prop where
  ok : X.Ok
  os : s.os = X.s₀.os
  bare : AllBare s.gens
  base : Un X.fs X.ex X.H₀ H X.s₀.heap s.heap
  loc : ∃ m, s.heap.Ns X.env.locals m ∧ ∀ (i : Nat) (x : Str) (v : V), X.N[i]? = some x → σ[i]? = some (some v) → Vis X.env.scope x → ∃ u, RelV v u ∧ Look X.env s.heap m x u
  cell : ∀ x c, X.env.cells.lookup x = some c → ∃ v, s.heap.IsCell c v
  free : H X.env.locals = none
  freeC : ∀ x c, X.env.cells.lookup x = some c → H c = none
  pin : ∀ p ∈ X.pn ++ pins, s.heap.get? p.1 = some p.2 ∧ H p.1 = none ∧ p.1 ≠ X.env.locals ∧ p.1 ∉ X.fs ∧ ∀ v, p.2.data ≠ .cell v
  hok : HOk X.prog X.w H s.heap
  len : σ.length = X.N.length

section
variable {X : Cx} {pins : List (Addr × Obj)} {σ : List (Option V)} {H H' : Hp} {s : Shared} {h' : Heap}

theorem Cx.Ok.nofr (ok : X.Ok) {b : Addr} {o : Obj} (e : X.base.get? b = some o) : b ∉ X.fs := fun hb => by
  have := (ok.funs.mem hb).1
  rw [e] at this; cases this
theorem Inv.bs (I : Inv X pins σ H s) : ∀ b o, X.base.get? b = some o → s.heap.get? b = some o ∧ H b = none := fun b o e =>
  ⟨I.base.keep b o (I.ok.bs b o e).1 (I.ok.bs b o e).2 (I.ok.nofr e) (I.ok.noex b o e), I.base.free b o (I.ok.bs b o e).1 (I.ok.bs b o e).2 (I.ok.noex b o e)⟩
theorem Inv.bk (I : Inv X pins σ H s) : ∀ b o, X.base.get? b = some o → s.heap.get? b = some o := fun b o e => (I.bs b o e).1
theorem Inv.mod (I : Inv X pins σ H s) : Mod X.K X.mg X.base := I.ok.mod
theorem Inv.kIn (I : Inv X pins σ H s) : X.K.In s.heap := I.ok.mod.kin.keeps I.bk
theorem Inv.nolimit (I : Inv X pins σ H s) : s.heap.NoLimit := I.ok.mod.nolimit.keeps I.bk
/-- the frame over the base: for OpenK's rules (K.In X.base is I.mod.kin) -/
theorem Inv.lt (I : Inv X pins σ H s) : X.env.locals < s.heap.objs.size := let ⟨_, hn, _⟩ := I.loc; hn.lt
theorem Inv.sz (I : Inv X pins σ H s) : X.s₀.heap.objs.size ≤ s.heap.objs.size := Nat.le_trans I.ok.above (Nat.le_of_lt I.lt)
theorem Inv.nofs (I : Inv X pins σ H s) {a : Addr} (h : s.heap.objs.size ≤ a) : a ∉ X.fs := fun hb => by
  obtain ⟨_, o, ho, _⟩ := I.ok.funs.mem hb
  exact absurd (Nat.lt_of_lt_of_le (Heap.lt_size ho) (Nat.le_trans I.sz h)) (Nat.lt_irrefl _)
theorem Inv.cne (I : Inv X pins σ H s) : ∀ x c, X.env.cells.lookup x = some c → c ≠ X.env.locals := fun x c e z => by
  obtain ⟨v, o, ho, hd⟩ := I.cell x c e
  obtain ⟨m, ⟨o', es, ep, ho', hd', _⟩, _⟩ := I.loc
  rw [z, ho'] at ho; cases ho; rw [hd'] at hd; cases hd
theorem Inv.funs (I : Inv X pins σ H s) : s.heap.FunFrames X.base X.outer := by
  have all : ∀ (l : List Env), (∀ b ∈ frs l, b ∈ X.fs) → X.s₀.heap.FunFrames X.base l → s.heap.FunFrames X.base l := by
    intro l
    induction l with
    | nil => intro _ _; trivial
    | cons env r ih =>
      intro hs hl
      obtain ⟨hk, ⟨L, o, hf, hn, ho, hd⟩, hr⟩ := hl
      have hL : L ∈ X.fs := hs L (by unfold frs; rw [List.filterMap_cons, hf]; exact List.mem_cons_self)
      obtain ⟨sl, e⟩ := I.base.slot L o ho (I.ok.frf L hL) hL fun z => I.ok.exfs L z hL
      exact ⟨hk, ⟨L, _, hf, hn, e, hd⟩, ih (fun b hb => hs b (by unfold frs; rw [List.filterMap_cons, hf]; exact List.mem_cons_of_mem _ hb)) hr⟩
  exact all X.outer (fun _ hb => hb) I.ok.funs

/-- the frames that run, for a call -/
theorem Inv.stack (I : Inv X pins σ H s) : s.heap.FunFrames X.base X.stack := by
  rcases I.ok.stk with e | ⟨e, hf⟩
  · rw [e]; exact I.funs
  · rw [e]
    obtain ⟨m, hn, _⟩ := I.loc
    refine .cons (by rw [I.ok.kind]; decide) hf hn ?_ I.funs
    exact Heap.get?_none_of_le (Nat.le_trans I.ok.bsz I.ok.above)
theorem Inv.stkSub (I : Inv X pins σ H s) : ∀ b ∈ frs X.stack, b ∈ X.env.locals :: X.fs := fun b hb => by
  rcases I.ok.stk with e | ⟨e, hf⟩
  · rw [e] at hb; exact List.mem_cons_of_mem _ hb
  · rw [e] at hb
    unfold frs at hb
    rw [List.filterMap_cons, hf] at hb
    exact hb
theorem Inv.stkFree (I : Inv X pins σ H s) : ∀ b ∈ frs X.stack, H b = none := fun b hb => by
  rcases List.mem_cons.mp (I.stkSub b hb) with e | hb
  · rw [e]; exact I.free
  · obtain ⟨_, o, ho, _⟩ := I.ok.funs.mem hb
    exact I.base.free b o ho (I.ok.frf b hb) fun z => I.ok.exfs b z hb

/-- THE STEP: the untracked objects but the frame and the records at ch are kept (the callers' frames up to slots), the frame's map is kept, the new abstract heap is held -/
theorem Inv.step {g' : Array GenState} {t' : Nat} {d' : Drawn} {ch : List Addr} (I : Inv X pins σ H s)
    (hch : ∀ b ∈ ch, (b ∈ X.ex ∨ X.s₀.heap.objs.size ≤ b) ∧ b ≠ X.env.locals ∧ (∀ x c, X.env.cells.lookup x = some c → c ≠ b) ∧ ∀ p ∈ X.pn ++ pins, p.1 ≠ b)
    (keep : ∀ b o, b ≠ X.env.locals → b ∉ X.fs → b ∉ ch → s.heap.get? b = some o → H b = none → h'.get? b = some o)
    (slot : ∀ b o, b ≠ X.env.locals → b ∈ X.fs → b ∉ ch → s.heap.get? b = some o → H b = none → ∃ sl, h'.get? b = some { o with slots := sl }) (free : ∀ b o, b ∉ ch → s.heap.get? b = some o → H b = none → H' b = none)
    (there : ∀ b o, b ∉ ch → s.heap.get? b = some o → ∃ o', h'.get? b = some o')
    (tups : ∀ b xs, H b = some (.tup xs) → H' b = some (.tup xs)) (frzs : ∀ b o u, H b = some (.frz o u) → H' b = some (.frz o u)) (tbls : ∀ b ps, H b = some (.tbl ps) → ∃ more, H' b = some (.tbl (ps ++ more)))
    (ns : ∀ m, s.heap.Ns X.env.locals m → h'.Ns X.env.locals m) (hok : HOk X.prog X.w H' h') (hg : AllBare g') :
    Inv X pins σ H' { s with heap := h', gens := g', drawn := d', toks := t' } := by
  have neL : ∀ b o, X.s₀.heap.get? b = some o → b ≠ X.env.locals := fun b o e => Nat.ne_of_lt (Nat.lt_of_lt_of_le (Heap.lt_size e) I.ok.above)
  have neC : ∀ b o, X.s₀.heap.get? b = some o → b ∉ X.ex → b ∉ ch := fun b o e hx hb => by
    rcases (hch b hb).1 with z | z
    · exact hx z
    · exact absurd (Nat.lt_of_lt_of_le (Heap.lt_size e) z) (Nat.lt_irrefl _)
  have cellK : ∀ x c, X.env.cells.lookup x = some c → ∀ v, s.heap.IsCell c v → h'.IsCell c v := fun x c e v ⟨o, ho, hd⟩ => by
    have nch : c ∉ ch := fun z => (hch c z).2.2.1 x c e rfl
    by_cases hc : c ∈ X.fs
    · obtain ⟨sl, q⟩ := slot c o (I.cne x c e) hc nch ho (I.freeC x c e)
      exact ⟨_, q, hd⟩
    · exact ⟨o, keep c o (I.cne x c e) hc nch ho (I.freeC x c e), hd⟩
  refine ⟨I.ok, I.os, hg, ⟨fun b o e n hb hx => ?_, fun b o e n hb hx => ?_, fun b o e n hx => ?_, fun b o e hx => ?_, fun b xs e => tups b xs (I.base.tups b xs e), fun b o xs e => frzs b o xs (I.base.frzs b o xs e), fun b ps e => ?_⟩, ?_, fun x c e => ?_, ?_, fun x c e => ?_, fun p hp => ?_, hok, I.len⟩
  · exact keep b o (neL b o e) hb (neC b o e hx) (I.base.keep b o e n hb hx) (I.base.free b o e n hx)
  · obtain ⟨sl, e1⟩ := I.base.slot b o e n hb hx
    obtain ⟨sl', e2⟩ := slot b _ (neL b o e) hb (neC b o e hx) e1 (I.base.free b o e n hx)
    exact ⟨sl', e2⟩
  · obtain ⟨o', e1⟩ := I.base.there b o e hx
    exact free b o' (neC b o e hx) e1 (I.base.free b o e n hx)
  · obtain ⟨o', e1⟩ := I.base.there b o e hx
    exact there b o' (neC b o e hx) e1
  · obtain ⟨m1, e1⟩ := I.base.tbls b ps e
    obtain ⟨m2, e2⟩ := tbls b _ e1
    exact ⟨m1 ++ m2, by rw [e2, Array.append_assoc]⟩
  · obtain ⟨m, hn, hl⟩ := I.loc
    refine ⟨m, ns m hn, fun i x v e1 e2 e3 => ?_⟩
    obtain ⟨u, r, l⟩ := hl i x v e1 e2 e3
    refine ⟨u, r, ?_⟩
    rcases l with l | ⟨k, c, e, z⟩
    · exact .inl l
    · exact .inr ⟨k, c, e, cellK x c e _ z⟩
  · obtain ⟨v, z⟩ := I.cell x c e
    exact ⟨v, cellK x c e v z⟩
  · obtain ⟨m, ⟨o, _, _, ho, _⟩, _⟩ := I.loc
    exact free _ o (fun z => (hch _ z).2.1 rfl) ho I.free
  · obtain ⟨v, o, ho, hd⟩ := I.cell x c e
    exact free c o (fun z => (hch c z).2.2.1 x c e rfl) ho (I.freeC x c e)
  · obtain ⟨e, n, ne, nf, d⟩ := I.pin p hp
    have nch : p.1 ∉ ch := fun z => (hch p.1 z).2.2.2 p hp rfl
    exact ⟨keep p.1 p.2 ne nf nch e n, free p.1 p.2 nch e n, ne, nf, d⟩
/-- .. where the frame's own object is kept too -/
theorem Inv.un {t' : Nat} (I : Inv X pins σ H s) (u : Un X.fs [] H H' s.heap h') (hok : HOk X.prog X.w H' h') : Inv X pins σ H' { s with heap := h', toks := t' } := by
  obtain ⟨m, ⟨o, es, ep, ho, r⟩, _⟩ := id I.loc
  obtain ⟨sl, hL⟩ := u.any ho I.free (by simp)
  exact I.step (g' := s.gens) (d' := s.drawn) (ch := []) (fun _ z => nomatch z) (fun b o _ hb _ e n => u.keep b o e n hb (by simp)) (fun b o _ hb _ e n => u.slot b o e n hb (by simp)) (fun b o _ e n => u.free b o e n (by simp)) (fun b o _ e => u.there b o e (by simp)) u.tups u.frzs u.tbls (fun m' hm => by
    obtain ⟨o', es', ep', ho', r'⟩ := hm
    rw [ho] at ho'; cases ho'
    exact ⟨_, es', ep', hL, r'⟩) hok I.bare
/-- behind a call (or a comprehension's block): the slots of this frame may have changed too, the records at ch may have turned -/
theorem Inv.call {g' : Array GenState} {t' : Nat} {d' : Drawn} {ch : List Addr} (I : Inv X pins σ H s) (u : Un (frs X.stack) ch H H' s.heap h') (hok : HOk X.prog X.w H' h') (hg : AllBare g')
    (hch : ∀ b ∈ ch, (b ∈ X.ex ∨ X.s₀.heap.objs.size ≤ b) ∧ b ≠ X.env.locals ∧ (∀ x c, X.env.cells.lookup x = some c → c ≠ b) ∧ ∀ p ∈ X.pn ++ pins, p.1 ≠ b) :
    Inv X pins σ H' { s with heap := h', gens := g', drawn := d', toks := t' } := by
  obtain ⟨m, ⟨o, es, ep, ho, r⟩, _⟩ := id I.loc
  obtain ⟨sl, hL⟩ := u.any ho I.free fun z => (hch _ z).2.1 rfl
  exact I.step (ch := ch) hch (fun b o hL hb hc e n => u.keep b o e n (fun z => (List.mem_cons.mp (I.stkSub b z)).elim hL hb) hc) (fun b o _ _ hc e n => u.any e n hc) (fun b o hc e n => u.free b o e n hc) (fun b o hc e => u.there b o e hc) u.tups u.frzs u.tbls (fun m' hm => by
    obtain ⟨o', es', ep', ho', r'⟩ := hm
    rw [ho] at ho'; cases ho'
    exact ⟨_, es', ep', hL, r'⟩) hok hg
/-- an untracked record of ours (an iterator) has turned -/
theorem Inv.turned {t' : Nat} {it : Addr} (I : Inv X pins σ H s) (k : ∀ b o, b ≠ it → s.heap.get? b = some o → h'.get? b = some o) (hn : H it = none) (hL : it ≠ X.env.locals)
    (h1 : it ∈ X.ex ∨ X.s₀.heap.objs.size ≤ it) (h2 : ∀ x c, X.env.cells.lookup x = some c → c ≠ it) (h3 : ∀ p ∈ X.pn ++ pins, p.1 ≠ it) : Inv X pins σ H { s with heap := h', toks := t' } := by
  have nit : ∀ b u, H b = some u → b ≠ it := fun b u e z => by rw [z, hn] at e; cases e
  refine I.step (g' := s.gens) (d' := s.drawn) (ch := [it]) (fun b hb => ?_) (fun b o _ _ hc e _ => k b o (fun z => hc (by simp [z])) e) (fun b o _ _ hc e _ => ⟨o.slots, k b o (fun z => hc (by simp [z])) e⟩) (fun _ _ _ _ n => n)
    (fun b o hc e => ⟨o, k b o (fun z => hc (by simp [z])) e⟩) (fun _ _ e => e) (fun _ _ _ e => e) (fun b ps e => ⟨#[], by rw [e]; simp⟩) (fun m hm => ?_) (fun b u e => ?_) I.bare
  · have e : b = it := by simpa using hb
    subst e
    exact ⟨h1, hL, h2, h3⟩
  · obtain ⟨o, es, ep, ho, r⟩ := hm
    exact ⟨o, es, ep, k _ o (Ne.symm hL) ho, r⟩
  · refine (I.hok b u e).stay (fun c v hc q => k c v ?_ q) (fun _ q => q) fun _ _ q => q
    rcases hc with z | z
    · rw [z]; exact nit b u e
    · exact nit c _ z
theorem Inv.tok (I : Inv X pins σ H s) (t : Nat) : Inv X pins σ H { s with toks := t } := I.un (h' := s.heap) (t' := t) Un.refl I.hok
/-- all objects kept -/
theorem Inv.kept {t' : Nat} (I : Inv X pins σ H s) (k : ∀ b u, s.heap.get? b = some u → h'.get? b = some u) : Inv X pins σ H { s with heap := h', toks := t' } := I.un (Un.kept k) (I.hok.kept k)
/-- a new object laid and tracked -/
theorem Inv.laid {a : Addr} {o : HO} {t' : Nat} (I : Inv X pins σ H s) (k : ∀ b u, s.heap.get? b = some u → h'.get? b = some u) (hp : s.heap.objs.size ≤ a) (new : ObjOk X.prog X.w (upd H a o) h' a o) :
    Inv X pins σ (upd H a o) { s with heap := h', toks := t' } := I.un (Un.laid k hp (I.hok.fresh hp)) (I.hok.laid k hp new)
/-- an object written -/
theorem Inv.write {x e : Addr} {o : HO} {t' : Nat} (I : Inv X pins σ H s) (mu : Mut (H x)) (he : e = x ∨ H e = some (.own x)) (k : ∀ b u, b ≠ e → s.heap.get? b = some u → h'.get? b = some u) (heo : ∃ u, h'.get? e = some u)
    (new : ObjOk X.prog X.w (upd H x o) h' x o) : Inv X pins σ (upd H x o) { s with heap := h', toks := t' } := I.un (Un.write mu he k heo) (I.hok.write mu he k heo new)
/-- forgetting slots, pins -/
theorem Inv.weak {σ' : List (Option V)} (I : Inv X pins σ H s) (hl : σ'.length = σ.length) (w : ∀ (i : Nat) v, σ'[i]? = some (some v) → σ[i]? = some (some v)) : Inv X pins σ' H s :=
  ⟨I.ok, I.os, I.bare, I.base, let ⟨m, hn, hl'⟩ := I.loc; ⟨m, hn, fun i x v e1 e2 e3 => hl' i x v e1 (w i v e2) e3⟩, I.cell, I.free, I.freeC, I.pin, I.hok, hl.trans I.len⟩
theorem Inv.pins_of {pins' : List (Addr × Obj)} (I : Inv X pins σ H s) (h : ∀ p ∈ pins', s.heap.get? p.1 = some p.2 ∧ H p.1 = none ∧ p.1 ≠ X.env.locals ∧ p.1 ∉ X.fs ∧ ∀ v, p.2.data ≠ .cell v) : Inv X pins' σ H s :=
  ⟨I.ok, I.os, I.bare, I.base, I.loc, I.cell, I.free, I.freeC, fun p hp => (List.mem_append.mp hp).elim (fun z => I.pin p (List.mem_append_left _ z)) (h p), I.hok, I.len⟩

theorem nodup_ix {N : List Str} (hN : N.Nodup) {i j : Nat} {x : Str} (a : N[i]? = some x) (b : N[j]? = some x) : i = j := by
  obtain ⟨h1, e1⟩ := List.getElem?_eq_some_iff.mp a
  obtain ⟨h2, e2⟩ := List.getElem?_eq_some_iff.mp b
  exact (List.getElem_inj hN).mp (e1.trans e2.symm)

/-- a name is stored; what changed -/
theorem store_ok2 {M : Model} {A : Around} {E : Value → Shared → Prop} {i : Nat} {x : Str} {v : V} {u : Value} {Q : Unit → Shared → Prop} (I : Inv X pins σ H s) (hN : X.N.Nodup) (hi : X.N[i]? = some x) (hx : Loc X.env.scope x) (r : RelV v u)
    (h : ∀ s', Inv X pins (σ.set i (some v)) H s' → (∃ a, Heap.SameBut a s.heap s'.heap ∧ (a = X.env.locals ∨ X.env.cells.lookup x = some a)) → Q () s') (hf : X.fn x = true ∨ X.env.scope.names.lookup x = some .local := by first | exact .inl rfl | exact .inr rfl | assumption) : wpAny M A (storeName X.env x u) Q E s := by
  obtain ⟨m, hn, hl⟩ := id I.loc
  have hcls : (X.env.scope.kind == .class || (X.env.scope.kind == .module && X.env.locals != X.env.globals)) = false := by rw [I.ok.kind]; rfl
  have hiσ : i < σ.length := by rw [I.len]; exact (List.getElem?_eq_some_iff.mp hi).1
  have cne := I.cne
  have tracked : ∀ {a : Addr} {h' : Heap}, (∃ o, s.heap.get? a = some o ∧ H a = none) → Heap.SameBut a s.heap h' → HOk X.prog X.w H h' := fun {a h'} ha hs b ob e => by
    obtain ⟨_, _, hfree⟩ := ha
    refine (I.hok b ob e).stay (fun c w' hc q => (hs.2 c ?_).trans q) (fun _ q => q) fun _ _ q => q
    rintro rfl
    rcases hc with rfl | hc
    · rw [hfree] at e; cases e
    · rw [hfree] at hc; cases hc
  rcases hx with hk | hk
  · refine wpAny_storeName_local hk hn (fun h' hn' hs => ?_) hcls
    obtain ⟨oL, _, _, hoL, _⟩ := id hn
    refine h _ ⟨I.ok, I.os, I.bare, ⟨fun b o e n hb hx => ?_, fun b o e n hb hx => ?_, I.base.free, fun b o e hx => ?_, I.base.tups, I.base.frzs, I.base.tbls⟩, ⟨_, hn', fun j y v' e1 e2 e3 => ?_⟩, fun y c e => ?_, I.free, I.freeC, fun p hp => ?_, tracked ⟨oL, hoL, I.free⟩ hs, by simpa using I.len⟩ ⟨_, hs, .inl rfl⟩
    · exact (hs.2 b (Nat.ne_of_lt (Nat.lt_of_lt_of_le (Heap.lt_size e) I.ok.above))).trans (I.base.keep b o e n hb hx)
    · obtain ⟨sl, e1⟩ := I.base.slot b o e n hb hx
      exact ⟨sl, (hs.2 b (Nat.ne_of_lt (Nat.lt_of_lt_of_le (Heap.lt_size e) I.ok.above))).trans e1⟩
    · obtain ⟨o', e1⟩ := I.base.there b o e hx
      exact ⟨o', (hs.2 b (Nat.ne_of_lt (Nat.lt_of_lt_of_le (Heap.lt_size e) I.ok.above))).trans e1⟩
    · by_cases hj : j = i
      · subst hj
        rw [hi] at e1; cases e1
        rw [List.getElem?_set_self hiσ] at e2
        cases e2
        exact ⟨u, r, .inl ⟨hk, by simp⟩⟩
      · rw [List.getElem?_set_ne (Ne.symm hj)] at e2
        obtain ⟨u', r', q⟩ := hl j y v' e1 e2 e3
        refine ⟨u', r', ?_⟩
        rcases q with ⟨k, e⟩ | ⟨k, c, e, z⟩
        · refine .inl ⟨k, ?_⟩
          have : y ≠ x := fun e => hj (nodup_ix hN e1 (e ▸ hi))
          simp [this, e]
        · exact .inr ⟨k, c, e, z.sameBut hs (cne y c e)⟩
    · obtain ⟨w', z⟩ := I.cell y c e
      exact ⟨w', z.sameBut hs (cne y c e)⟩
    · obtain ⟨e, n, ne, nf, d⟩ := I.pin p hp
      exact ⟨(hs.2 p.1 ne).trans e, n, ne, nf, d⟩
  · have hfn : X.fn x = true := by
      rcases hf with z | z
      · exact z
      · rw [z] at hk; cases hk
    obtain ⟨c, hc⟩ := I.ok.has x (.inl hk)
    obtain ⟨w', z⟩ := I.cell x c hc
    refine wpAny_storeName_cell I.ok.kind hk hc z (fun h' hc' hs => ?_)
    obtain ⟨oc, hoc, hocd⟩ := id z
    refine h { s with heap := h' } ⟨I.ok, I.os, I.bare, ⟨fun b o e n hb hx => ?_, fun b o e n hb hx => ?_, I.base.free, fun b o e hx => ?_, I.base.tups, I.base.frzs, I.base.tbls⟩, ⟨m, hn.sameBut hs (Ne.symm (cne x c hc)), fun j y v' e1 e2 e3 => ?_⟩, fun y c' e => ?_, I.free, I.freeC, fun p hp => ?_, tracked ⟨oc, hoc, I.freeC x c hc⟩ hs, by simpa using I.len⟩ ⟨c, hs, .inr hc⟩
    · exact (hs.2 b (Nat.ne_of_lt (Nat.lt_of_lt_of_le (Heap.lt_size e) (I.ok.cab x c hfn hc)))).trans (I.base.keep b o e n hb hx)
    · obtain ⟨sl, e1⟩ := I.base.slot b o e n hb hx
      exact ⟨sl, (hs.2 b (Nat.ne_of_lt (Nat.lt_of_lt_of_le (Heap.lt_size e) (I.ok.cab x c hfn hc)))).trans e1⟩
    · obtain ⟨o', e1⟩ := I.base.there b o e hx
      exact ⟨o', (hs.2 b (Nat.ne_of_lt (Nat.lt_of_lt_of_le (Heap.lt_size e) (I.ok.cab x c hfn hc)))).trans e1⟩
    · by_cases hj : j = i
      · subst hj
        rw [hi] at e1; cases e1
        rw [List.getElem?_set_self hiσ] at e2
        cases e2
        exact ⟨u, r, .inr ⟨.inl hk, c, hc, hc'⟩⟩
      · rw [List.getElem?_set_ne (Ne.symm hj)] at e2
        obtain ⟨u', r', q⟩ := hl j y v' e1 e2 e3
        refine ⟨u', r', ?_⟩
        rcases q with q | ⟨k, c', e, z'⟩
        · exact .inl q
        · refine .inr ⟨k, c', e, z'.sameBut hs ?_⟩
          rintro rfl
          exact hj (nodup_ix hN e1 (I.ok.inj _ _ _ e hc ▸ hi))
    · by_cases hcc : c' = c
      · subst hcc; exact ⟨_, hc'⟩
      · obtain ⟨w2, z2⟩ := I.cell y c' e
        exact ⟨w2, z2.sameBut hs hcc⟩
    · obtain ⟨e, n, ne, nf, d⟩ := I.pin p hp
      refine ⟨(hs.2 p.1 ?_).trans e, n, ne, nf, d⟩
      intro q
      rw [q, hoc] at e
      have q' : oc = p.2 := Option.some.inj e
      exact d w' (by rw [← q']; exact hocd)
theorem store_ok {M : Model} {A : Around} {E : Value → Shared → Prop} {i : Nat} {x : Str} {v : V} {u : Value} {Q : Unit → Shared → Prop} (I : Inv X pins σ H s) (hN : X.N.Nodup) (hi : X.N[i]? = some x) (hx : Loc X.env.scope x) (r : RelV v u)
    (h : ∀ s', Inv X pins (σ.set i (some v)) H s' → Q () s') (hf : X.fn x = true ∨ X.env.scope.names.lookup x = some .local := by first | exact .inl rfl | exact .inr rfl | assumption) : wpAny M A (storeName X.env x u) Q E s :=
  store_ok2 I hN hi hx r (fun s' I' _ => h s' I') hf
/-- behind a call or a block, the state as it is -/
theorem Inv.call' {s' : Shared} {ch : List Addr} (I : Inv X pins σ H s) (ho : s'.os = s.os) (u : Un (frs X.stack) ch H H' s.heap s'.heap) (hok : HOk X.prog X.w H' s'.heap) (hg : AllBare s'.gens)
    (hch : ∀ b ∈ ch, (b ∈ X.ex ∨ X.s₀.heap.objs.size ≤ b) ∧ b ≠ X.env.locals ∧ (∀ x c, X.env.cells.lookup x = some c → c ≠ b) ∧ ∀ p ∈ X.pn ++ pins, p.1 ≠ b) : Inv X pins σ H' s' := by
  obtain ⟨h', g', d', t', o'⟩ := s'
  have e : o' = s.os := ho
  subst e
  exact I.call (g' := g') (t' := t') (d' := d') u hok hg hch
end

/-! ### the judgements -/
/-- an exception: its class, its own dict's address (where it has one), the abstract heap behind it -/
abbrev XK := Value → Option Addr → Hp → Prop
abbrev St := List (Option V)
abbrev VK := V → Hp → Prop
/-- an expression's reading; a test's; an argument list's -/
abbrev TE := St → Hp → VK → Prop
abbrev TT := St → Hp → (Bool → Hp → Prop) → Prop
abbrev TA := St → Hp → (List V → Hp → Prop) → Prop
/-- what is wanted behind a statement -/
structure Ends where
  nx : St → Hp → Prop
  rt : VK
  bk : St → Hp → Prop := fun _ _ => False
  ct : St → Hp → Prop := fun _ _ => False
abbrev TS := Ends → St → Hp → Prop

def EP (X : Cx) (pins : List (Addr × Obj)) (σ : St) (Q : VK) (u : Value) (s' : Shared) : Prop := ∃ v H', Inv X pins σ H' s' ∧ RelV v u ∧ Q v H'
def TP (X : Cx) (pins : List (Addr × Obj)) (σ : St) (Q : Bool → Hp → Prop) (b : Bool) (s' : Shared) : Prop := ∃ H', Inv X pins σ H' s' ∧ Q b H'
def AP (X : Cx) (pins : List (Addr × Obj)) (σ : St) (Q : List V → Hp → Prop) (us : List Value) (s' : Shared) : Prop := ∃ vs H', Inv X pins σ H' s' ∧ Vals vs us ∧ Q vs H'
def SP (X : Cx) (pins : List (Addr × Obj)) (D : Ends) (f : Flow) (s' : Shared) : Prop :=
  match f with
  | .next => ∃ σ' H', Inv X pins σ' H' s' ∧ D.nx σ' H'
  | .brk => ∃ σ' H', Inv X pins σ' H' s' ∧ D.bk σ' H'
  | .cont => ∃ σ' H', Inv X pins σ' H' s' ∧ D.ct σ' H'
  | .ret u => ∃ v σ' H', Inv X pins σ' H' s' ∧ RelV v u ∧ D.rt v H'

def PE (X : Cx) (e : Expr) (t : TE) : Prop :=
  ∀ (pins : List (Addr × Obj)) (s : Shared) (σ : St) (H : Hp) (Q : VK), Inv X pins σ H s → t σ H Q → wpAny (model X.prog X.w) X.A (eval e X.env) (EP X pins σ Q) X.xe s
def PT (X : Cx) (e : Expr) (t : TT) : Prop :=
  ∀ (pins : List (Addr × Obj)) (s : Shared) (σ : St) (H : Hp) (Q : Bool → Hp → Prop), Inv X pins σ H s → t σ H Q → wpAny (model X.prog X.w) X.A (isTrue e X.env (eval e X.env)) (TP X pins σ Q) X.xe s
/-- a test whatever its 'whole' is (and, or) -/
def PW (X : Cx) (e : Expr) (t : TT) : Prop :=
  ∀ (whole : Sem Value) (pins : List (Addr × Obj)) (s : Shared) (σ : St) (H : Hp) (Q : Bool → Hp → Prop), Inv X pins σ H s → t σ H Q → wpAny (model X.prog X.w) X.A (isTrue e X.env whole) (TP X pins σ Q) X.xe s
theorem PW.pt {X : Cx} {e : Expr} {t : TT} (h : PW X e t) : PT X e t := h _
/-- an argument list (no star), from the left -/
def PA (X : Cx) (es : List Expr) (t : TA) : Prop :=
  ∀ (pos : Pos) (pins : List (Addr × Obj)) (s : Shared) (σ : St) (H : Hp) (Q : List V → Hp → Prop), Inv X pins σ H s → t σ H Q → wpAny (model X.prog X.w) X.A (spliced (backTo pos (starEach es X.env))) (AP X pins σ Q) X.xe s
def PS (X : Cx) (st : Stmt) (t : TS) : Prop :=
  ∀ (pins : List (Addr × Obj)) (s : Shared) (σ : St) (H : Hp) (D : Ends), Inv X pins σ H s → t D σ H → wpAny (model X.prog X.w) X.A (exec st X.env) (SP X pins D) X.xe s
def PSs (X : Cx) (st : List Stmt) (t : TS) : Prop :=
  ∀ (pins : List (Addr × Obj)) (s : Shared) (σ : St) (H : Hp) (D : Ends), Inv X pins σ H s → t D σ H → wpAny (model X.prog X.w) X.A (execs st X.env) (SP X pins D) X.xe s
/-- weaken the end -/
theorem thn {α : Type} {t : Sem α} {Q Q' : α → Shared → Prop} {M : Model} {A : Around} {E : Value → Shared → Prop} {s : Shared} (h : wpAny M A t Q E s) (hQ : ∀ a s, Q a s → Q' a s) : wpAny M A t Q' E s := wpAny_mono h hQ fun _ _ x => x
end L2

namespace L2
open PySem PySem.Spec PyProof.Rows
section
variable {X : Cx}

/-! ### names and constants -/
def tVar (i : Nat) : TE := fun σ H Q => ∃ v, σ[i]? = some (some v) ∧ Q v H
def tC (v : V) : TE := fun _ H Q => Q v H
theorem pe_var {i : Nat} {x : Str} {pos : Pos} (hN : X.N[i]? = some x) (hv : Vis X.env.scope x) (hd : (x == ("__debug__" : Str)) = false := by decide) (hcd : (x == ("__classdict__" : Str)) = false := by decide) : PE X (.Name x pos) (tVar i) := by
  intro pins s σ H Q I h
  obtain ⟨v, e, h⟩ := h
  obtain ⟨m, hn, hl⟩ := I.loc
  obtain ⟨u, r, l⟩ := hl i x v hN e hv
  have fin : EP X pins σ Q u s := ⟨v, H, I, r, h⟩
  rcases l with ⟨hk, hm⟩ | ⟨hk, c, hc, hcell⟩
  · exact wpAny_Name (wpAny_loadName_local I.ok.kind hk hn hm fin) hd
  · rcases hk with hk | hk
    · exact wpAny_Name (wpAny_loadName_cell I.ok.kind hk hc hcell fin) hd
    · exact wpAny_Name (wpAny_loadName_free I.ok.kind hk hc hcell fin hcd) hd
theorem pe_int {i j pos} : PE X (.Constant (.int i) j pos) (tC (.int i)) := fun _ _ _ H _ I h => wpAny_Constant_int ⟨.int i, H, I.tok _, ⟨_, rfl⟩, h⟩
theorem pe_bl {b j pos} : PE X (.Constant (.bool b) j pos) (tC (.bl b)) := fun _ _ _ H _ I h => Constant_bool ⟨.bl b, H, I, rfl, h⟩
theorem pe_non {j pos} : PE X (.Constant .none j pos) (tC .non) := fun _ _ _ H _ I h => Constant_none ⟨.non, H, I, rfl, h⟩
theorem pe_str {x j pos} : PE X (.Constant (.str x) j pos) (tC (.str x)) := fun _ _ _ H _ I h => Calls.Constant_str ⟨.str x, H, I.tok _, ⟨_, rfl⟩, h⟩

/-- a global name of the def -/
def Gl (X : Cx) (x : Str) : Prop := X.env.kindOf x = some .globalImplicit
theorem ld_glob {E : Value → Shared → Prop} {pins : List (Addr × Obj)} {s : Shared} {σ : St} {H : Hp} {x : Str} {u : Value} {pos : Pos} {Q : Value → Shared → Prop} (I : Inv X pins σ H s) (hg : Gl X x) (hm : X.mg x = some u) (h : Q u s)
    (hd : (x == ("__debug__" : Str)) = false := by decide) : wpAny (model X.prog X.w) X.A (eval (.Name x pos) X.env) Q E s :=
  Calls.Name_function_global I.ok.kind hg (Calls.loadGlobal_global (by rw [I.ok.glob]; exact I.mod.glob.keeps I.bk) hm h) hd
theorem ld_blt {E : Value → Shared → Prop} {pins : List (Addr × Obj)} {s : Shared} {σ : St} {H : Hp} {x : Str} {u : Value} {pos : Pos} {Q : Value → Shared → Prop} (I : Inv X pins σ H s) (hg : Gl X x) (hm : X.mg x = none) (hv : bootBuiltins x = some u) (h : Q u s)
    (hn : x ≠ "__name__" := by decide) (hd : (x == ("__debug__" : Str)) = false := by decide) : wpAny (model X.prog X.w) X.A (eval (.Name x pos) X.env) Q E s := by
  obtain ⟨mb, h1, h2⟩ := I.mod.blt
  exact Calls.Name_function_global I.ok.kind hg (Calls.loadGlobal_builtin (by rw [I.ok.glob]; exact I.mod.glob.keeps I.bk) hm (by rw [I.ok.blt]; exact h1.keeps I.bk) ((h2 x hn).trans hv) h) hd
/-- a module's constant, a class, a function, as a value -/
theorem pe_glob {x : Str} {v : V} {u : Value} {pos : Pos} (hg : Gl X x) (hm : X.mg x = some u) (r : RelV v u) (hd : (x == ("__debug__" : Str)) = false := by decide) : PE X (.Name x pos) (tC v) :=
  fun _ _ _ H _ I h => ld_glob I hg hm ⟨v, H, I, r, h⟩ hd
theorem pe_bltn {x : Str} {v : V} {u : Value} {pos : Pos} (hg : Gl X x) (hm : X.mg x = none) (hv : bootBuiltins x = some u) (r : RelV v u) (hn : x ≠ "__name__" := by decide) (hd : (x == ("__debug__" : Str)) = false := by decide) : PE X (.Name x pos) (tC v) :=
  fun _ _ _ H _ I h => ld_blt I hg hm hv ⟨v, H, I, r, h⟩ hn hd

/-! ### arithmetic -/
/-- two ints -/
def t2I (ta tb : TE) (k : Int → Int → Hp → Prop) : St → Hp → Prop := fun σ H => ta σ H fun x H1 => tb σ H1 fun y H2 => ∃ i j, x = .int i ∧ y = .int j ∧ k i j H2
def tAdd (ta tb : TE) : TE := fun σ H Q => t2I ta tb (fun i j H2 => Q (.int (i + j)) H2) σ H
def tSub (ta tb : TE) : TE := fun σ H Q => t2I ta tb (fun i j H2 => Q (.int (i - j)) H2) σ H
/-- the left factor below 2^64 -/
def tMul (ta tb : TE) : TE := fun σ H Q => t2I ta tb (fun i j H2 => (-(2 ^ 64) < i ∧ i < 2 ^ 64) ∧ Q (.int (i * j)) H2) σ H
variable {a b : Expr} {ta tb : TE} {pos : Pos}
/-! ### comparisons -/
def PC (X : Cx) (op : CmpOp) (a b : Expr) (t : TE) : Prop :=
  ∀ (pins : List (Addr × Obj)) (s : Shared) (σ : St) (H : Hp) (Q : VK), Inv X pins σ H s → t σ H Q →
    wpAny (model X.prog X.w) X.A (eval a X.env) (fun v s₁ => wpAny (model X.prog X.w) X.A (eval b X.env) (fun u s₂ => wpAny (model X.prog X.w) X.A (compareOp op v u) (EP X pins σ Q) X.xe s₂) X.xe s₁) X.xe s
def tCmp (p : Int → Int → Bool) (ta tb : TE) : TE := fun σ H Q => t2I ta tb (fun i j H2 => Q (.bl (p i j)) H2) σ H
abbrev tLt : TE → TE → TE := tCmp fun i j => decide (i < j)
abbrev tLe : TE → TE → TE := tCmp fun i j => decide (i ≤ j)
abbrev tGt : TE → TE → TE := tCmp fun i j => decide (j < i)
abbrev tGe : TE → TE → TE := tCmp fun i j => decide (j ≤ i)
abbrev tEqI : TE → TE → TE := tCmp fun i j => decide (i = j)
abbrev tNeI : TE → TE → TE := tCmp fun i j => !decide (i = j)
/-- is None -/
def tIsN (ta : TE) : TE := fun σ H Q => ta σ H fun x H1 => Q (.bl (decide (x = .non))) H1
def tNotN (ta : TE) : TE := fun σ H Q => ta σ H fun x H1 => Q (.bl (!decide (x = .non))) H1
/-- a comparison as a value, as a test -/
def tB (t : TE) : TT := fun σ H Q => t σ H fun x H1 => ∃ c, x = .bl c ∧ Q c H1
/-- an expression whose value is a bool, as a test -/
theorem pt_val {e : Expr} {t : TE} (h : PE X e t) (he : ∀ whole, isTrue e X.env whole = (do let v ← whole; standAt e.pos; holding [v] (truthy v)) := by intro _; rfl) : PT X e (tB t) := by
  intro pins s σ H Q I hw
  refine isTrue_plain (thn (h pins s σ H _ I hw) fun v s1 ⟨x, H1, I1, r1, q1⟩ => ?_) (he _)
  obtain ⟨d, rfl, q⟩ := q1
  cases r1
  exact wpAny_truthy_bool ⟨H1, I1, q⟩

/-! ### and, or, not -/
variable {tA tB' : TT} {rest : List Expr}
def tAnd (t u : TT) : TT := fun σ H Q => t σ H fun c H1 => if c = true then u σ H1 Q else Q false H1
def tOr (t u : TT) : TT := fun σ H Q => t σ H fun c H1 => if c = true then Q true H1 else u σ H1 Q
def tNot (t : TT) : TT := fun σ H Q => t σ H fun c H1 => Q (!c) H1
theorem pw_and1 (ha : PT X a tA) : PW X (.BoolOp .And [a] pos) tA := by
  intro wh pins s σ H Q I h
  refine isTrue_and (thn (ha pins s σ H Q I h) fun c s1 e => ?_)
  cases c with
  | true => exact isTrue_and_nil e
  | false => exact e
theorem pw_or1 (ha : PT X a tA) : PW X (.BoolOp .Or [a] pos) tA := by
  intro wh pins s σ H Q I h
  refine isTrue_or (thn (ha pins s σ H Q I h) fun c s1 e => ?_)
  cases c with
  | false => exact isTrue_or_nil e
  | true => exact e
theorem pw_and (ha : PT X a tA) (hb : PW X (.BoolOp .And (b :: rest) pos) tB') : PW X (.BoolOp .And (a :: b :: rest) pos) (tAnd tA tB') := by
  intro wh pins s σ H Q I h
  refine isTrue_and (thn (ha pins s σ H _ I h) fun c s1 ⟨H1, I1, q1⟩ => ?_)
  cases c with
  | true => exact hb wh pins s1 σ H1 Q I1 q1
  | false => exact ⟨H1, I1, q1⟩
theorem pw_or (ha : PT X a tA) (hb : PW X (.BoolOp .Or (b :: rest) pos) tB') : PW X (.BoolOp .Or (a :: b :: rest) pos) (tOr tA tB') := by
  intro wh pins s σ H Q I h
  refine isTrue_or (thn (ha pins s σ H _ I h) fun c s1 ⟨H1, I1, q1⟩ => ?_)
  cases c with
  | true => exact ⟨H1, I1, q1⟩
  | false => exact hb wh pins s1 σ H1 Q I1 q1
theorem pt_not (ha : PT X a tA) : PT X (.UnaryOp .Not a pos) (tNot tA) := by
  intro pins s σ H Q I h
  exact isTrue_not (ha pins s σ H (fun c H1 => Q (!c) H1) I h)
/-- .. as values (bools) -/
def tAndV (ta tb : TE) : TE := fun σ H Q => ta σ H fun x H1 => ∃ c, x = .bl c ∧ if c = true then tb σ H1 Q else Q (.bl false) H1
def tOrV (ta tb : TE) : TE := fun σ H Q => ta σ H fun x H1 => ∃ c, x = .bl c ∧ if c = true then Q (.bl true) H1 else tb σ H1 Q
def tNotV (ta : TE) : TE := fun σ H Q => ta σ H fun x H1 => ∃ c, x = .bl c ∧ Q (.bl (!c)) H1
theorem pe_one {op} {t : TE} (h : PE X a t) : PE X (.BoolOp op [a] pos) t := fun pins s σ H Q I hw => BoolOp_one (h pins s σ H Q I hw)
theorem pe_and (ha : PE X a ta) (hb : PE X (.BoolOp .And (b :: rest) pos) tb) : PE X (.BoolOp .And (a :: b :: rest) pos) (tAndV ta tb) := by
  intro pins s σ H Q I h
  refine BoolOp_and (thn (ha pins s σ H _ I h) fun v s1 ⟨x, H1, I1, r1, q1⟩ => ?_)
  obtain ⟨c, rfl, q1⟩ := q1
  cases r1
  refine wpAny_truthy_bool ?_
  cases c with
  | true => exact hb pins s1 σ H1 Q I1 q1
  | false => exact ⟨.bl false, H1, I1, rfl, q1⟩
theorem pe_not (ha : PE X a ta) : PE X (.UnaryOp .Not a pos) (tNotV ta) := by
  intro pins s σ H Q I h
  refine UnaryOp_ (thn (ha pins s σ H _ I h) fun v s1 ⟨x, H1, I1, r1, q1⟩ => ?_)
  obtain ⟨c, rfl, q1⟩ := q1
  cases r1
  exact not_of (wpAny_truthy_bool ⟨.bl (!c), H1, I1, rfl, q1⟩)
/-- a if t else b -/
def tIf (t : TT) (ta tb : TE) : TE := fun σ H Q => t σ H fun c H1 => if c = true then ta σ H1 Q else tb σ H1 Q
theorem pe_ifExp {c : Expr} (hc : PT X c tA) (ha : PE X a ta) (hb : PE X b tb) : PE X (.IfExp c a b pos) (tIf tA ta tb) := by
  intro pins s σ H Q I h
  refine wpAny_IfExp (thn (hc pins s σ H _ I h) fun d s1 ⟨H1, I1, q1⟩ => ?_)
  cases d with
  | true => exact ha pins s1 σ H1 Q I1 q1
  | false => exact hb pins s1 σ H1 Q I1 q1
end
end L2

namespace L2
open PySem PySem.Spec PyProof.Rows

/-! ### a list, a tuple that is read: tracked, frozen, or an object of the module -/
def SqL (K : PySem.W.Frag) (H : Hp) (a : Addr) (xs : List V) : Prop :=
  Rd H a (.lst xs) ∨
    ∃ (o : Obj) (its : Array Value) (n : Nat), K.lookup a = some o ∧ o.cls = .type "list" ∧ o.dict = none ∧ o.data = .seq its n ∧ its.size ≤ sizeLine ∧ Vals xs its.toList
def SqT (K : PySem.W.Frag) (H : Hp) (a : Addr) (xs : List V) : Prop :=
  Rd H a (.tup xs) ∨
    ∃ (o : Obj) (its : Array Value) (n : Nat), K.lookup a = some o ∧ o.cls = .type "tuple" ∧ o.data = .seq its n ∧ its.size ≤ sizeLine ∧ Vals xs its.toList
def absV : Value → Option V
  | .none => some .non
  | .bool b => some (.bl b)
  | .int i _ => some (.int i)
  | .str x _ => some (.str x)
  | .bytes b _ => some (.byt b)
  | .float b _ => some (.flt b)
  | .ref a => some (.ref a)
  | .type n => some (.ty n)
  | _ => none
theorem RelV.abs {x : V} {u : Value} (r : RelV x u) : absV u = some x := by
  cases x with
  | non => cases r; rfl
  | bl _ => cases r; rfl
  | int _ => obtain ⟨t, rfl⟩ := r; rfl
  | str _ => obtain ⟨t, rfl⟩ := r; rfl
  | byt _ => obtain ⟨t, rfl⟩ := r; rfl
  | flt _ => obtain ⟨t, rfl⟩ := r; rfl
  | ref _ => cases r; rfl
  | ty _ => cases r; rfl
theorem RelV.inj {x y : V} {u : Value} (r : RelV x u) (q : RelV y u) : x = y := Option.some.inj (r.abs.symm.trans q.abs)
theorem Vals.inj : ∀ {xs ys : List V} {us : List Value}, Vals xs us → Vals ys us → xs = ys
  | _, _, _, .nil, .nil => rfl
  | _, _, _, .cons r t, .cons r' t' => by rw [r.inj r', Vals.inj t t']
section
variable {X : Cx} {pins : List (Addr × Obj)} {σ : St} {H : Hp} {s : Shared} {a : Addr} {xs ys : List V}
theorem SqL.of {K : PySem.W.Frag} (h : H a = some (.lst xs)) : SqL K H a xs := .inl (.inl h)
theorem SqT.of {K : PySem.W.Frag} (h : H a = some (.tup xs)) : SqT K H a xs := .inl (.inl h)
theorem Inv.list (I : Inv X pins σ H s) (h : SqL X.K H a xs) : ∃ its : List Value, Vals xs its ∧ PlainL s.heap a its.toArray ∧ xs.length ≤ sizeLine := by
  rcases h with h | ⟨o, its, n, hk, hc, hd, hs, hz, r⟩
  · obtain ⟨z, its, n, r, e⟩ := h.ok I.hok
    exact ⟨its, r, ⟨_, n, e, rfl, rfl, rfl⟩, z⟩
  · refine ⟨its.toList, r, ⟨o, n, I.kIn a o hk, hc, hd, by simpa using hs⟩, ?_⟩
    have e := r.length
    simp only [Array.length_toList] at e
    omega
theorem Inv.tuple (I : Inv X pins σ H s) (h : SqT X.K H a xs) : ∃ its : List Value, Vals xs its ∧ IsTup s.heap a its.toArray ∧ xs.length ≤ sizeLine := by
  rcases h with h | ⟨o, its, n, hk, hc, hs, hz, r⟩
  · obtain ⟨z, its, r, p⟩ := h.ok I.hok
    exact ⟨its, r, p, z⟩
  · refine ⟨its.toList, r, ⟨o, I.kIn a o hk, hc, n, by simpa using hs⟩, ?_⟩
    have e := r.length
    simp only [Array.length_toList] at e
    omega
theorem Inv.list_inj (I : Inv X pins σ H s) (h : SqL X.K H a xs) (h' : SqL X.K H a ys) : xs = ys := by
  obtain ⟨its, r, ⟨o, n, e, _, _, d⟩, _⟩ := I.list h
  obtain ⟨its', r', ⟨o', n', e', _, _, d'⟩, _⟩ := I.list h'
  rw [e] at e'; cases e'
  rw [d] at d'
  injection d' with d1 _
  have : its = its' := by simpa using congrArg Array.toList d1
  subst this
  exact r.inj r'
theorem Inv.tuple_inj (I : Inv X pins σ H s) (h : SqT X.K H a xs) (h' : SqT X.K H a ys) : xs = ys := by
  obtain ⟨its, r, ⟨o, e, _, n, d⟩, _⟩ := I.tuple h
  obtain ⟨its', r', ⟨o', e', _, n', d'⟩, _⟩ := I.tuple h'
  rw [e] at e'; cases e'
  rw [d] at d'
  injection d' with d1 _
  have : its = its' := by simpa using congrArg Array.toList d1
  subst this
  exact r.inj r'
end

/-! ### another wish about exceptions -/
abbrev Cx.wish (X : Cx) (E : Value → Shared → Prop) : Cx := { X with xe := E }
/-- no exception leaves -/
abbrev Cx.nox (X : Cx) : Cx := X.wish fun _ _ => False
theorem Cx.Ok.wish {X : Cx} (ok : X.Ok) (E : Value → Shared → Prop) : (X.wish E).Ok :=
  ⟨ok.mod, ok.kind, ok.glob, ok.blt, ok.above, ok.inj, ok.has, ok.cab, ok.hd, ok.frames, ok.stk, ok.exf, ok.bs, ok.bsz, ok.noex, ok.exfs, ok.funs, ok.frf⟩
theorem Cx.Ok.unwish {X : Cx} {E : Value → Shared → Prop} (ok : (X.wish E).Ok) : X.Ok :=
  ⟨ok.mod, ok.kind, ok.glob, ok.blt, ok.above, ok.inj, ok.has, ok.cab, ok.hd, ok.frames, ok.stk, ok.exf, ok.bs, ok.bsz, ok.noex, ok.exfs, ok.funs, ok.frf⟩
section
variable {X : Cx} {pins : List (Addr × Obj)} {σ : St} {H : Hp} {s : Shared} {E : Value → Shared → Prop}
theorem Inv.wish (I : Inv X pins σ H s) (E : Value → Shared → Prop) : Inv (X.wish E) pins σ H s := ⟨I.ok.wish E, I.os, I.bare, I.base, I.loc, I.cell, I.free, I.freeC, I.pin, I.hok, I.len⟩
theorem Inv.unwish (I : Inv (X.wish E) pins σ H s) : Inv X pins σ H s := ⟨I.ok.unwish, I.os, I.bare, I.base, I.loc, I.cell, I.free, I.freeC, I.pin, I.hok, I.len⟩
theorem SP.unwish {D : Ends} {f : Flow} {s' : Shared} (h : SP (X.wish E) pins D f s') : SP X pins D f s' := by
  cases f with
  | next => obtain ⟨σ', H', I, q⟩ := h; exact ⟨σ', H', I.unwish, q⟩
  | brk => obtain ⟨σ', H', I, q⟩ := h; exact ⟨σ', H', I.unwish, q⟩
  | cont => obtain ⟨σ', H', I, q⟩ := h; exact ⟨σ', H', I.unwish, q⟩
  | ret u => obtain ⟨v, σ', H', I, r, q⟩ := h; exact ⟨v, σ', H', I.unwish, r, q⟩
theorem PE.nox {e : Expr} {t : TE} (h : PE X.nox e t) : PE X e t := fun pins s σ H Q I hw =>
  wpAny_mono (h pins s σ H Q (I.wish _) hw) (fun _ _ ⟨v, H', I', r, q⟩ => ⟨v, H', I'.unwish, r, q⟩) fun _ _ z => False.elim z
theorem PT.nox {e : Expr} {t : TT} (h : PT X.nox e t) : PT X e t := fun pins s σ H Q I hw =>
  wpAny_mono (h pins s σ H Q (I.wish _) hw) (fun _ _ ⟨H', I', q⟩ => ⟨H', I'.unwish, q⟩) fun _ _ z => False.elim z
theorem PSs.nox {st : List Stmt} {t : TS} (h : PSs X.nox st t) : PSs X st t := fun pins s σ H D I hw =>
  wpAny_mono (h pins s σ H D (I.wish _) hw) (fun _ _ q => q.unwish) fun _ _ z => False.elim z
end

/-! ### blocks and small statements -/
section
variable {X : Cx} {st : Stmt} {rest : List Stmt} {t u : TS} {e : Expr} {te : TE} {pos : Pos}
def tNext : TS := fun D σ H => D.nx σ H
def tSeq (t u : TS) : TS := fun D σ H => t { D with nx := u D } σ H
theorem pss_nil : PSs X [] tNext := fun _ _ σ H _ I h => wpAny_execs_nil ⟨σ, H, I, h⟩
theorem pss_cons (h1 : PS X st t) (h2 : PSs X rest u) : PSs X (st :: rest) (tSeq t u) := by
  intro pins s σ H D I h
  refine wpAny_execs_cons (thn (h1 pins s σ H { D with nx := u D } I h) fun f s1 q => ?_)
  cases f with
  | next =>
    obtain ⟨σ', H', I', q⟩ := q
    exact h2 pins s1 σ' H' D I' q
  | ret v => exact q
  | brk => exact q
  | cont => exact q
theorem pss_one (h1 : PS X st t) : PSs X [st] t := by
  intro pins s σ H D I h
  refine wpAny_execs_cons (thn (h1 pins s σ H D I h) fun f s1 q => ?_)
  cases f with
  | next => exact wpAny_execs_nil q
  | ret v => exact q
  | brk => exact q
  | cont => exact q
def tBreak : TS := fun D σ H => D.bk σ H
def tCont : TS := fun D σ H => D.ct σ H
/-- in a def's body nothing is shown -/
theorem Inv.quiet {pins : List (Addr × Obj)} {σ : St} {H : Hp} {s : Shared} (I : Inv X pins σ H s) : interactive X.env = false := by simp [interactive, I.ok.kind]
/-- an expression whose value is dropped -/
def tDrop (te : TE) : TS := fun D σ H => te σ H fun _ H1 => D.nx σ H1
theorem ps_expr (he : PE X e te) (hs : swapsWith e none pos.line X.env = pure false := by rfl) : PS X (.Expr e pos) (tDrop te) := by
  intro pins s σ H D I h
  exact wpAny_Expr_any (thn (he pins s σ H _ I h) fun v s1 ⟨x, H1, I1, r1, q1⟩ => ⟨σ, H1, I1, q1⟩) I.quiet hs
def tRet (te : TE) : TS := fun D σ H => te σ H D.rt
theorem ps_ret (he : PE X e te) : PS X (.Return (some e) pos) (tRet te) := by
  intro pins s σ H D I h
  exact wpAny_Return_some (thn (he pins s σ H _ I h) fun v s1 ⟨x, H1, I1, r1, q1⟩ => ⟨x, σ, H1, I1, r1, q1⟩)
def tRetN : TS := fun D _ H => D.rt .non H
def tIfS (c : TT) (t u : TS) : TS := fun D σ H => c σ H fun b H1 => if b = true then t D σ H1 else u D σ H1
theorem ps_if {c : Expr} {a b : List Stmt} {tc : TT} (hc : PT X c tc) (ha : PSs X a t) (hb : PSs X b u) : PS X (.If c a b pos) (tIfS tc t u) := by
  intro pins s σ H D I h
  refine wpAny_If (thn (hc pins s σ H _ I h) fun d s1 ⟨H1, I1, q1⟩ => ?_)
  cases d with
  | true => exact ha pins s1 σ H1 D I1 q1
  | false => exact hb pins s1 σ H1 D I1 q1
/-- code that the proof never comes to -/
def tNever : TS := fun _ _ _ => False
end

/-! ### targets -/
abbrev TG := V → St → Hp → (St → Hp → Prop) → Prop
abbrev TGs := List V → St → Hp → (St → Hp → Prop) → Prop
def PG (X : Cx) (target : Expr) (t : TG) : Prop :=
  ∀ (pins : List (Addr × Obj)) (s : Shared) (σ : St) (H : Hp) (v : V) (u : Value) (Q : St → Hp → Prop), Inv X pins σ H s → RelV v u → t v σ H Q →
    wpAny (model X.prog X.w) X.A (assign target X.env u) (fun _ s' => ∃ σ' H', Inv X pins σ' H' s' ∧ Q σ' H') X.xe s
/-- several targets, one after another -/
def PGs (X : Cx) (ts : List Expr) (t : TGs) : Prop :=
  ∀ (pins : List (Addr × Obj)) (s : Shared) (σ : St) (H : Hp) (vs : List V) (us : List Value) (Q : St → Hp → Prop), Inv X pins σ H s → Vals vs us → t vs σ H Q →
    wpAny (model X.prog X.w) X.A (assignInOrder ((assignEach ts X.env).map (·.2)) us) (fun _ s' => ∃ σ' H', Inv X pins σ' H' s' ∧ Q σ' H') X.xe s
/-- o[i] = v, by values -/
abbrev TSet := V → V → V → Hp → (Hp → Prop) → Prop
def PSet (X : Cx) (t : TSet) : Prop :=
  ∀ (pins : List (Addr × Obj)) (s : Shared) (σ : St) (H : Hp) (o i v : V) (ov iv u : Value) (Q : Hp → Prop), Inv X pins σ H s → RelV o ov → RelV i iv → RelV v u → t o i v H Q →
    wpAny (model X.prog X.w) X.A (setItem ov iv u) (fun _ s' => ∃ H', Inv X pins σ H' s' ∧ Q H') X.xe s
/-- a op= b, by values -/
abbrev TIp := V → V → Hp → VK → Prop
def PIp (X : Cx) (op : Operator) (t : TIp) : Prop :=
  ∀ (pins : List (Addr × Obj)) (s : Shared) (σ : St) (H : Hp) (x y : V) (v u : Value) (Q : VK), Inv X pins σ H s → RelV x v → RelV y u → t x y H Q →
    wpAny (model X.prog X.w) X.A (inplaceOp op v u) (EP X pins σ Q) X.xe s
section
variable {X : Cx} {pos : Pos}
def gName (i : Nat) : TG := fun v σ H Q => Q (σ.set i (some v)) H
theorem pg_name {i : Nat} {x : Str} (hN : X.N.Nodup) (hi : X.N[i]? = some x) (hx : Loc X.env.scope x) (hf : X.fn x = true ∨ X.env.scope.names.lookup x = some .local := by first | exact .inl rfl | exact .inr rfl | assumption) : PG X (.Name x pos) (gName i) := by
  intro pins s σ H v u Q I r h
  exact wpAny_assign_Name (store_ok I hN hi hx r (fun s' I' => ⟨_, H, I', h⟩) hf)
def gNil : TGs := fun vs σ H Q => vs = [] ∧ Q σ H
def gCons (t : TG) (u : TGs) : TGs := fun vs σ H Q => ∃ v r, vs = v :: r ∧ t v σ H fun σ' H' => u r σ' H' Q
theorem pgs_nil : PGs X [] gNil := by
  intro pins s σ H vs us Q I r h
  obtain ⟨e, h⟩ := h
  subst e
  cases r
  exact assignInOrder_nil ⟨σ, H, I, h⟩
theorem pgs_cons {e : Expr} {es : List Expr} {t : TG} {u : TGs} (h1 : PG X e t) (h2 : PGs X es u)
    (hs : (assignEach (e :: es) X.env).map (·.2) = assign e X.env :: (assignEach es X.env).map (·.2) := by rfl) : PGs X (e :: es) (gCons t u) := by
  intro pins s σ H vs us Q I r h
  obtain ⟨v, vr, e1, h⟩ := h
  subst e1
  cases r with
  | cons r rr =>
    rw [hs]
    refine assignInOrder_cons (thn (h1 pins s σ H _ _ _ I r h) fun _ s1 ⟨σ1, H1, I1, q1⟩ => ?_)
    exact h2 pins s1 σ1 H1 _ _ Q I1 rr q1
/-- (a, b, ..) = a tuple of that length -/
def gTup (K : PySem.W.Frag) (n : Nat) (t : TGs) : TG := fun v σ H Q => ∃ a xs, v = .ref a ∧ SqT K H a xs ∧ xs.length = n ∧ t xs σ H Q
theorem pg_tup {es : List Expr} {k : Nat} {t : TGs} {n : Nat} (hc : X.calm = true) (h : PGs X es t)
    (hn : (assignEach es X.env).length = n := by rfl) (hst : (assignEach es X.env).findIdx? (·.1) = none := by rfl) : PG X (.Tuple es k pos) (gTup X.K n t) := by
  intro pins s σ H v u Q I r hw
  obtain ⟨a, xs, e1, hq, hl, hw⟩ := hw
  subst e1
  cases r
  obtain ⟨its, rv, ht, hz⟩ := I.tuple hq
  refine assign_Tuple_tuple (I.ok.hd hc) ht (by simp [hn, ← hl, rv.length]) hst fun h' hx => ?_
  have I1 : Inv X pins σ H { s with heap := h' } := I.kept (t' := s.toks) fun b o e => hx b o (Nat.ne_of_lt (Heap.lt_size e)) e
  exact h pins _ σ H xs _ Q I1 (by simpa using rv) hw
/-- o[i] = .. -/
def gSub (to ti : TE) (t : TSet) : TG := fun v σ H Q => to σ H fun o H1 => ti σ H1 fun i H2 => t o i v H2 fun H3 => Q σ H3
/-- target = value -/
def tAsg (te : TE) (g : TG) : TS := fun D σ H => te σ H fun x H1 => g x σ H1 D.nx
/-- name = value -/
theorem ps_set {i : Nat} {x : Str} {e : Expr} {te : TE} {pos' : Pos} (hN : X.N.Nodup) (hi : X.N[i]? = some x) (hx : Loc X.env.scope x) (he : PE X e te) (hs : swapsWith e (some (.Name x pos')) pos.line X.env = pure false := by rfl) (hf : X.fn x = true ∨ X.env.scope.names.lookup x = some .local := by first | exact .inl rfl | exact .inr rfl | assumption) :
    PS X (.Assign [.Name x pos'] e pos) (tAsg te (gName i)) := by
  intro pins s σ H D I h
  refine wpAny_Assign_Name (thn (he pins s σ H _ I h) fun v s1 ⟨y, H1, I1, r1, q1⟩ => ?_) hs
  exact store_ok I1 hN hi hx r1 (fun s2 I2 => ⟨_, H1, I2, q1⟩) hf
/-- a, b = x, y with plain local names: stored from the right; the pair itself is not tracked (the opening rows as in PyProof/Rows/TupAssign.lean:23) -/
def tPar (i j : Nat) (ta : TA) : TS := fun D σ H => ta σ H fun vs H1 => ∃ v w, vs = [v, w] ∧ D.nx ((σ.set i (some v)).set j (some w)) H1
/-- name op= e -/
def tAug (i : Nat) (te : TE) (ti : TIp) : TS := fun D σ H => ∃ x, σ[i]? = some (some x) ∧ te σ H fun y H1 => ti x y H1 fun z H2 => D.nx (σ.set i (some z)) H2
/-- o[i] op= e -/
def tAugS (to ti te : TE) (tget : V → V → Hp → VK → Prop) (tip : TIp) (tset : TSet) : TS := fun D σ H => to σ H fun o H1 => ti σ H1 fun i H2 => tget o i H2 fun x H3 => te σ H3 fun y H4 => tip x y H4 fun z H5 => tset o i z H5 fun H6 => D.nx σ H6
/-- o[i], by values -/
def PGet (X : Cx) (t : V → V → Hp → VK → Prop) : Prop :=
  ∀ (pins : List (Addr × Obj)) (s : Shared) (σ : St) (H : Hp) (o i : V) (ov iv : Value) (Q : VK), Inv X pins σ H s → RelV o ov → RelV i iv → t o i H Q →
    wpAny (model X.prog X.w) X.A (getItem ov iv) (EP X pins σ Q) X.xe s
/-- ints -/
def ipI (f : Int → Int → Int) : TIp := fun x y H Q => ∃ i j, x = .int i ∧ y = .int j ∧ Q (.int (f i j)) H
end

/-! ### while -/
section
variable {X : Cx} {pos : Pos}
/-- the invariant W with its measure -/
def tWhile (c : TT) (tb : TS) : TS := fun D σ H => ∃ W : Nat → St → Hp → Prop, (∃ m, W m σ H) ∧ ∀ m σ H, W m σ H →
  c σ H fun b H1 => if b = true then ∃ N : St → Hp → Prop, (∀ σ' H', N σ' H' → ∃ m', m' < m ∧ W m' σ' H') ∧ tb { D with nx := N, ct := N, bk := D.nx } σ H1 else D.nx σ H1
theorem ps_while {c : Expr} {body : List Stmt} {tc : TT} {tb : TS} (hp : PassesOwn (model X.prog X.w) X.A X.env X.xe) (hc : PT X c tc) (hb : PSs X body tb) : PS X (.While c body [] pos) (tWhile tc tb) := by
  intro pins s σ H D I h
  obtain ⟨W, ⟨m0, w0⟩, turn⟩ := h
  refine wpAny_While (codeAny_whileLoop (fun n s' => ∃ σ' H', Inv X pins σ' H' s' ∧ W n σ' H') ?_ m0 ⟨σ, H, I, w0⟩)
  rintro n s1 ⟨σ1, H1, I1, w1⟩
  refine wpAny_passesOwn hp (thn (hc pins s1 σ1 H1 _ I1 (turn n σ1 H1 w1)) fun b s2 ⟨H2, I2, q2⟩ => ?_)
  cases b with
  | true =>
    obtain ⟨N, hN, q2⟩ := q2
    rw [if_pos rfl]
    refine wpAny_passesOwn hp (thn (hb pins s2 σ1 H2 _ I2 q2) fun f s3 q3 => ?_)
    cases f with
    | next =>
      obtain ⟨σ3, H3, I3, n3⟩ := q3
      obtain ⟨m', hm, w3⟩ := hN σ3 H3 n3
      exact ⟨m', hm, σ3, H3, I3, w3⟩
    | cont =>
      obtain ⟨σ3, H3, I3, n3⟩ := q3
      obtain ⟨m', hm, w3⟩ := hN σ3 H3 n3
      exact ⟨m', hm, σ3, H3, I3, w3⟩
    | brk => exact q3
    | ret v => exact q3
  | false =>
    rw [if_neg Bool.false_ne_true]
    exact wpAny_execs_nil ⟨σ1, H2, I2, q2⟩
end

/-! ### what a loop or a comprehension walks -/
/-- at turn i: it yields x (the heap may grow), or it stops -/
structure It where
  go : Nat → Hp → Prop
  yld : Nat → Hp → V → Hp → Prop
  stop : Nat → Hp → Prop
/-- the iterator's own objects may turn: they are not the frame's, not pinned, younger than the entry (or a comprehension's own) -/
def FpOk (X : Cx) (pins : List (Addr × Obj)) (H : Hp) (b : Addr) : Prop :=
  H b = none ∧ b ≠ X.env.locals ∧ b ∉ X.fs ∧ (b ∈ X.ex ∨ X.s₀.heap.objs.size ≤ b) ∧ (∀ x c, X.env.cells.lookup x = some c → c ≠ b) ∧ ∀ p ∈ X.pn ++ pins, p.1 ≠ b
theorem Inv.fpOk {X : Cx} {pins : List (Addr × Obj)} {σ : St} {H H' : Hp} {s : Shared} {b : Addr} (I : Inv X pins σ H s) (hb : s.heap.objs.size ≤ b) (hn : H' b = none) : FpOk X pins H' b := by
  refine ⟨hn, Nat.ne_of_gt (Nat.lt_of_lt_of_le I.lt hb), I.nofs hb, .inr (Nat.le_trans I.sz hb), fun x c e z => ?_, fun p hp z => ?_⟩
  · obtain ⟨v, q⟩ := I.cell x c e
    exact absurd (Nat.lt_of_lt_of_le q.lt (by rw [z]; exact hb)) (Nat.lt_irrefl _)
  · exact absurd (Nat.lt_of_lt_of_le (Heap.lt_size (I.pin p hp).1) (by rw [z]; exact hb)) (Nat.lt_irrefl _)
structure Turn (P : Program) (w : World) (K : PySem.W.Frag) (tg : Expr) (J : It) (fp : List Addr) (it : Addr) (tn : Nat → Heap → Prop) : Prop where
  mem : it ∈ fp
  obj : ∀ i h, tn i h → ∀ b ∈ fp, ∃ o, h.get? b = some o ∧ ∀ v, o.data ≠ .cell v
  keep : ∀ i h h', tn i h → (∀ b ∈ fp, ∀ o, h.get? b = some o → h'.get? b = some o) → tn i h'
  item : ∀ (X : Cx), X.prog = P → X.w = w → X.K = K → X.calm = true → ∀ (i : Nat) (pins : List (Addr × Obj)) (s : Shared) (σ : St) (H : Hp) (E : Value → Shared → Prop), Inv X pins σ H s → (∀ b ∈ fp, FpOk X pins H b) → tn i s.heap → J.go i H →
    wpAny (model P w) X.A (pyNext (.ref it)) (fun r s1 => ∃ u, r = some u ∧
      wpAny (model P w) X.A (letOwnedTupleGo tg (.ref it) u) (fun _ s2 => ∃ x H', Inv X pins σ H' s2 ∧ RelV x u ∧ J.yld i H x H' ∧ tn (i + 1) s2.heap ∧ ∀ b ∈ fp, H' b = none) E s1) E s
  done : ∀ (X : Cx), X.prog = P → X.w = w → X.K = K → X.calm = true → ∀ (i : Nat) (pins : List (Addr × Obj)) (s : Shared) (σ : St) (H : Hp) (E : Value → Shared → Prop), Inv X pins σ H s → (∀ b ∈ fp, FpOk X pins H b) → tn i s.heap → J.stop i H →
    wpAny (model P w) X.A (pyNext (.ref it)) (fun r s1 => r = none ∧ Inv X pins σ H s1) E s
  self : ∀ (A : Around) (i : Nat) (s : Shared) (Q : Value → Shared → Prop) (E : Value → Shared → Prop), tn i s.heap → Q (.ref it) s → wpAny (model P w) A (pyIter (.ref it)) Q E s
abbrev TI := St → Hp → (It → Hp → Prop) → Prop
/-- an iterator has come -/
def PIE (X : Cx) (pins : List (Addr × Obj)) (σ : St) (tg : Expr) (R : It → Hp → Prop) (itv : Value) (s2 : Shared) : Prop :=
  ∃ (it : Addr) (fp : List Addr) (tn : Nat → Heap → Prop) (J : It) (H' : Hp), itv = .ref it ∧ Inv X pins σ H' s2 ∧ Turn X.prog X.w X.K tg J fp it tn ∧ tn 0 s2.heap ∧ (∀ b ∈ fp, FpOk X pins H' b) ∧ R J H'
def PI (X : Cx) (tg iter : Expr) (wi : TI) : Prop :=
  ∀ (pins : List (Addr × Obj)) (s : Shared) (σ : St) (H : Hp) (R : It → Hp → Prop), Inv X pins σ H s → wi σ H R →
    wpAny (model X.prog X.w) X.A (eval iter X.env) (fun v s1 => wpAny (model X.prog X.w) X.A (pyIter v) (PIE X pins σ tg R) X.xe s1) X.xe s

/-- the step ahead of the store is nothing for an iterator that keeps no tuple -/
theorem go_of {M : Model} {A : Around} {E : Value → Shared → Prop} {s : Shared} {tg : Expr} {it : Addr} {u : Value} {o : Obj} {n : String} {vs : Array Value} {Q : Unit → Shared → Prop} (ho : s.heap.get? it = some o) (hc : o.cls = .type n) (hd : o.data = .fields vs)
    (hn : ["enumerate", "zip", "dict_itemiterator", "dict_reverseitemiterator", "odict_iterator", "itertools.zip_longest", "itertools.pairwise"].contains n = false) (hQ : Q () s) : wpAny M A (letOwnedTupleGo tg (.ref it) u) Q E s := by
  unfold letOwnedTupleGo
  cases tg <;> first
    | exact wpAny_pure hQ
    | (cases u <;> first
        | exact wpAny_pure hQ
        | (refine wpAny_bind (wpAny_load ho ?_)
           rw [hc, hd]
           show wpAny M A (if (["enumerate", "zip", "dict_itemiterator", "dict_reverseitemiterator", "odict_iterator", "itertools.zip_longest", "itertools.pairwise"].contains n && vs[0]? == some (rawInt _)) = true then _ else _) Q E s
           rw [if_neg (by intro h; rw [hn, Bool.false_and] at h; cases h)]
           exact wpAny_pure hQ))

/-- the list at a, as it stands at each turn (a loop may append to it) -/
def Itl (K : PySem.W.Frag) (a : Addr) : It :=
  ⟨fun i H => ∃ xs x, SqL K H a xs ∧ xs[i]? = some x, fun i H x H' => H' = H ∧ ∀ xs, SqL K H a xs → xs[i]? = some x, fun i H => ∃ xs, SqL K H a xs ∧ xs.length ≤ i⟩
def Itt (K : PySem.W.Frag) (a : Addr) : It :=
  ⟨fun i H => ∃ xs x, SqT K H a xs ∧ xs[i]? = some x, fun i H x H' => H' = H ∧ ∀ xs, SqT K H a xs → xs[i]? = some x, fun i H => ∃ xs, SqT K H a xs ∧ xs.length ≤ i⟩
/-- lo, lo + 1, .. (n of them) -/
def Itr (lo : Int) (n : Nat) : It := ⟨fun i _ => i < n, fun i H x H' => H' = H ∧ x = .int (lo + i), fun i _ => n ≤ i⟩
theorem turn_list {P : Program} {w : World} {K : PySem.W.Frag} {tg : Expr} (a it : Addr) : Turn P w K tg (Itl K a) [it] it (fun i h => h.IsListIter it a i) where
  mem := by simp
  obj := fun i h st b hb => by
    have e : b = it := by simpa using hb
    subst e
    obtain ⟨o, e, c, d⟩ := st
    exact ⟨o, e, fun v z => by rw [d] at z; cases z⟩
  keep := fun i h h' st k => st.at fun o e => k it (by simp) o e
  item := by
    intro X hP hw hK hc i pins s σ H E I hf st hg
    subst hP hw hK
    obtain ⟨xs, x, hq, hx⟩ := hg
    obtain ⟨its, rv, p, hz⟩ := I.list hq
    obtain ⟨u, hu, ru⟩ := rv.get hx
    obtain ⟨f0, f1, f2, f3, f4, f5⟩ := hf it (by simp)
    refine wpAny_pyNext_list_item st p.isList (x := u) (by simpa using hu) fun h' st' sb => ?_
    have I1 : Inv X pins σ H { s with heap := h' } := I.turned (t' := s.toks) (fun b o hb e => (sb.2 b hb).trans e) f0 f1 f3 f4 f5
    obtain ⟨o, e, c, d⟩ := id st'
    exact ⟨u, rfl, go_of (s := { s with heap := h' }) e c d (by decide) ⟨x, H, I1, ru, ⟨rfl, fun ys hy => by rw [I.list_inj hy hq]; exact hx⟩, st', fun b hb => (hf b hb).1⟩⟩
  done := by
    intro X hP hw hK hc i pins s σ H E I hf st hg
    subst hP hw hK
    obtain ⟨xs, hq, hx⟩ := hg
    obtain ⟨its, rv, p, hz⟩ := I.list hq
    obtain ⟨f0, f1, f2, f3, f4, f5⟩ := hf it (by simp)
    have hl := rv.length
    exact wpAny_pyNext_list_end (I.ok.hd hc) st p.isList (by simp; omega) fun h' eb => ⟨rfl, I.turned (t' := s.toks) (fun b o hb e => eb b o hb e) f0 f1 f3 f4 f5⟩
  self := fun _ _ _ _ _ st h => wpAny_pyIter_listiter st h
theorem turn_tuple {P : Program} {w : World} {K : PySem.W.Frag} {tg : Expr} (a it : Addr) : Turn P w K tg (Itt K a) [it] it (fun i h => h.IsTupleIter it a i) where
  mem := by simp
  obj := fun i h st b hb => by
    have e : b = it := by simpa using hb
    subst e
    obtain ⟨o, e, c, d⟩ := st
    exact ⟨o, e, fun v z => by rw [d] at z; cases z⟩
  keep := fun i h h' st k => st.at fun o e => k it (by simp) o e
  item := by
    intro X hP hw hK hc i pins s σ H E I hf st hg
    subst hP hw hK
    obtain ⟨xs, x, hq, hx⟩ := hg
    obtain ⟨its, rv, p, hz⟩ := I.tuple hq
    obtain ⟨u, hu, ru⟩ := rv.get hx
    obtain ⟨f0, f1, f2, f3, f4, f5⟩ := hf it (by simp)
    refine wpAny_pyNext_tuple_item st (show s.heap.IsTuple a its.toArray from p) (x := u) (by simpa using hu) fun h' st' sb => ?_
    have I1 : Inv X pins σ H { s with heap := h' } := I.turned (t' := s.toks) (fun b o hb e => (sb.2 b hb).trans e) f0 f1 f3 f4 f5
    obtain ⟨o, e, c, d⟩ := id st'
    exact ⟨u, rfl, go_of (s := { s with heap := h' }) e c d (by decide) ⟨x, H, I1, ru, ⟨rfl, fun ys hy => by rw [I.tuple_inj hy hq]; exact hx⟩, st', fun b hb => (hf b hb).1⟩⟩
  done := by
    intro X hP hw hK hc i pins s σ H E I hf st hg
    subst hP hw hK
    obtain ⟨xs, hq, hx⟩ := hg
    obtain ⟨its, rv, p, hz⟩ := I.tuple hq
    obtain ⟨f0, f1, f2, f3, f4, f5⟩ := hf it (by simp)
    have hl := rv.length
    exact wpAny_pyNext_tuple_end (I.ok.hd hc) st (show s.heap.IsTuple a its.toArray from p) (by simp; omega) fun h' eb => ⟨rfl, I.turned (t' := s.toks) (fun b o hb e => eb b o hb e) f0 f1 f3 f4 f5⟩
  self := fun _ _ _ _ _ st h => wpAny_pyIter_tupleiter st h
theorem turn_range {P : Program} {w : World} {K : PySem.W.Frag} {tg : Expr} (it : Addr) (lo : Int) (n : Nat) : Turn P w K tg (Itr lo n) [it] it (fun i h => IsRangeIter h it (lo + (i : Nat) * 1) ((n : Int) - (i : Nat)) 1) where
  mem := by simp
  obj := fun i h st b hb => by
    have e : b = it := by simpa using hb
    subst e
    exact ⟨_, st, fun v z => by
      have z' : Data.fields _ = Data.cell v := z
      cases z'⟩
  keep := fun i h h' st k => k it (by simp) _ st
  item := by
    intro X hP hw hK hc i pins s σ H E I hf st hg
    subst hP hw hK
    obtain ⟨f0, f1, f2, f3, f4, f5⟩ := hf it (by simp)
    have W := Walks.range (prog := X.prog) (w := X.w) (I.ok.hd hc) it lo 1 n
    refine W.item i s _ _ hg st fun v h' tk hv st' kk => ?_
    obtain ⟨t, rfl⟩ := hv
    have I1 : Inv X pins σ H { s with heap := h', toks := tk } := I.turned (fun b o hb e => kk b o (by simpa using hb) e) f0 f1 f3 f4 f5
    refine ⟨_, rfl, go_of (s := { s with heap := h', toks := tk }) (n := "range_iterator") st' rfl rfl (by decide) ⟨.int (lo + i), H, I1, ⟨t, ?_⟩, ⟨rfl, rfl⟩, st', fun b hb => (hf b hb).1⟩⟩
    rw [Int.mul_one]
  done := by
    intro X hP hw hK hc i pins s σ H E I hf st hg
    subst hP hw hK
    obtain ⟨f0, f1, f2, f3, f4, f5⟩ := hf it (by simp)
    exact wpAny_pyNext_range_end (I.ok.hd hc) st (by have : n ≤ i := hg; omega) fun h' eb => ⟨rfl, I.turned (t' := s.toks) (fun b o hb e => eb b o hb e) f0 f1 f3 f4 f5⟩
  self := fun _ _ _ _ _ st h => wpAny_pyIter_rangeiter st h
end L2

namespace L2
open PySem PySem.Spec PyProof.Rows
section
variable {X : Cx} {tg : Expr}
def iList (K : PySem.W.Frag) (tl : TE) : TI := fun σ H R => tl σ H fun x H1 => ∃ a, x = .ref a ∧ (∃ xs, SqL K H1 a xs) ∧ R (Itl K a) H1
def iTup (K : PySem.W.Frag) (tl : TE) : TI := fun σ H R => tl σ H fun x H1 => ∃ a, x = .ref a ∧ (∃ xs, SqT K H1 a xs) ∧ R (Itt K a) H1
theorem pi_list {l : Expr} {tl : TE} (hl : PE X l tl) : PI X tg l (iList X.K tl) := by
  intro pins s σ H R I h
  refine thn (hl pins s σ H _ I h) fun v s1 ⟨x, H1, I1, r1, q1⟩ => ?_
  obtain ⟨a, e, ⟨xs, hq⟩, q⟩ := q1
  subst e
  cases r1
  obtain ⟨its, rv, p, hz⟩ := I1.list hq
  refine wpAny_pyIter_list p.isList ?_
  refine ⟨s1.heap.objs.size, [s1.heap.objs.size], _, _, H1, rfl, I1.kept (t' := s1.toks) fun b o e => Heap.get?_push_of_some _ e, turn_list a _, ⟨_, Heap.get?_push_size _ rfl, rfl, rfl⟩, fun b hb => ?_, q⟩
  have e : b = s1.heap.objs.size := by simpa using hb
  subst e
  exact I1.fpOk (Nat.le_refl _) (I1.hok.fresh (Nat.le_refl _))
theorem pi_tup {l : Expr} {tl : TE} (hl : PE X l tl) : PI X tg l (iTup X.K tl) := by
  intro pins s σ H R I h
  refine thn (hl pins s σ H _ I h) fun v s1 ⟨x, H1, I1, r1, q1⟩ => ?_
  obtain ⟨a, e, ⟨xs, hq⟩, q⟩ := q1
  subst e
  cases r1
  obtain ⟨its, rv, p, hz⟩ := I1.tuple hq
  refine wpAny_pyIter_tuple (show s1.heap.IsTuple a its.toArray from p) ?_
  refine ⟨s1.heap.objs.size, [s1.heap.objs.size], _, _, H1, rfl, I1.kept (t' := s1.toks) fun b o e => Heap.get?_push_of_some _ e, turn_tuple a _, ⟨_, Heap.get?_push_size _ rfl, rfl, rfl⟩, fun b hb => ?_, q⟩
  have e : b = s1.heap.objs.size := by simpa using hb
  subst e
  exact I1.fpOk (Nat.le_refl _) (I1.hok.fresh (Nat.le_refl _))
/-- a range object just made, walked -/
theorem range_it {pins : List (Addr × Obj)} {σ : St} {H : Hp} {s : Shared} {R : It → Hp → Prop} {E : Value → Shared → Prop} {lo hi : Int} {t u v : Tok} {tk : Nat} (I : Inv X pins σ H s) (h1 : -(2 ^ 62) ≤ lo) (h2 : lo < 2 ^ 62) (h3 : -(2 ^ 62) ≤ hi) (h4 : hi < 2 ^ 62)
    (q : R (Itr lo (hi - lo).toNat) H) : wpAny (model X.prog X.w) X.A (pyIter (.ref s.heap.objs.size)) (PIE X pins σ tg R) E { s with heap := s.heap.push { cls := .type "range", data := .fields #[.int lo t, .int hi u, .int 1 v] }, toks := tk } := by
  refine wpAny_pyIter_range (IsRange.new ..) (small_one h1 h2 h3 h4) ?_
  have I1 : Inv X pins σ H { s with heap := s.heap.push { cls := .type "range", data := .fields #[.int lo t, .int hi u, .int 1 v] }, toks := tk } := I.kept fun b o e => Heap.get?_push_of_some _ e
  refine ⟨(s.heap.push { cls := .type "range", data := .fields #[.int lo t, .int hi u, .int 1 v] }).objs.size, [(s.heap.push { cls := .type "range", data := .fields #[.int lo t, .int hi u, .int 1 v] }).objs.size], _, _, H, rfl,
    I1.kept (t' := tk) fun b o e => Heap.get?_push_of_some _ e, turn_range _ lo (hi - lo).toNat, ?_, fun b hb => ?_, q⟩
  · have e1 : lo + ((0 : Nat) : Int) * 1 = lo := by simp
    have e2 : (((hi - lo).toNat : Nat) : Int) - ((0 : Nat) : Int) = Builtin.Range.rangeSize lo hi 1 := by rw [rangeSize_one]; split <;> omega
    show IsRangeIter _ _ (lo + ((0 : Nat) : Int) * 1) ((((hi - lo).toNat : Nat) : Int) - ((0 : Nat) : Int)) 1
    rw [e1, e2]
    exact Heap.get?_push_size _ rfl
  · have e : b = (s.heap.push { cls := .type "range", data := .fields #[.int lo t, .int hi u, .int 1 v] }).objs.size := by simpa using hb
    subst e
    exact I1.fpOk (Nat.le_refl _) (I1.hok.fresh (Nat.le_refl _))
def iRng1 (ta : TA) : TI := fun σ H R => ta σ H fun vs H1 => ∃ j : Int, vs = [.int j] ∧ -(2 ^ 62) ≤ j ∧ j < 2 ^ 62 ∧ R (Itr 0 j.toNat) H1
def iRng2 (ta : TA) : TI := fun σ H R => ta σ H fun vs H1 => ∃ i j : Int, vs = [.int i, .int j] ∧ (-(2 ^ 62) ≤ i ∧ i < 2 ^ 62 ∧ -(2 ^ 62) ≤ j ∧ j < 2 ^ 62) ∧ R (Itr i (j - i).toNat) H1
theorem pi_range1 {a : Expr} {ta : TA} {p pos : Pos} (hg : Gl X "range") (hm : X.mg "range" = none) (ha : PA X [a] ta) (hs : starEach [a] X.env = [(false, eval a X.env)] := by rfl) : PI X tg (.Call (.Name "range" p) [a] [] pos) (iRng1 ta) := by
  intro pins s σ H R I h
  refine Call_ (ld_blt I hg hm boot_range (PyProof.Rows.callWith_type1 (thn (ha pos pins s σ H _ I h) fun us s1 ⟨vs, H1, I1, r1, q1⟩ => ?_) hs rfl))
  obtain ⟨j, e, q1, q2, q⟩ := q1
  subst e
  cases r1 with
  | cons r rr =>
    cases rr
    obtain ⟨t, rfl⟩ := r
    exact call_range_1 (range_it I1 (by omega) (by omega) q1 q2 (by simpa using q))
/-! ### for -/
/-- W: the invariant by the turn and a measure; N: what the body is to reach -/
def tFor (wi : TI) (g : TG) (tb : TS) : TS := fun D σ H => wi σ H fun J H1 => ∃ W : Nat → Nat → St → Hp → Prop, (∃ m, W 0 m σ H1) ∧ ∀ i m σ H, W i m σ H →
  (J.stop i H ∧ D.nx σ H) ∨ (J.go i H ∧ ∃ N : St → Hp → Prop, (∀ σ' H', N σ' H' → ∃ m', m' < m ∧ W (i + 1) m' σ' H') ∧ ∀ x H', J.yld i H x H' → g x σ H' fun σ2 H2 => tb { D with nx := N, ct := N, bk := D.nx } σ2 H2)
/-- the records at fp as they stand -/
def pinsAt (fp : List Addr) (h : Heap) : List (Addr × Obj) := fp.filterMap fun b => (h.get? b).map fun o => (b, o)
theorem mem_pinsAt {fp : List Addr} {h : Heap} {b : Addr} {o : Obj} (hb : b ∈ fp) (e : h.get? b = some o) : (b, o) ∈ pinsAt fp h := List.mem_filterMap.mpr ⟨b, hb, by rw [e]; rfl⟩
theorem of_pinsAt {fp : List Addr} {h : Heap} {p : Addr × Obj} (hp : p ∈ pinsAt fp h) : p.1 ∈ fp ∧ h.get? p.1 = some p.2 := by
  obtain ⟨b, hb, e⟩ := List.mem_filterMap.mp hp
  cases q : h.get? b with
  | none => rw [q] at e; cases e
  | some o =>
    rw [q] at e
    have e' : (b, o) = p := Option.some.inj e
    subst e'
    exact ⟨hb, q⟩
theorem Inv.pinned {pins : List (Addr × Obj)} {σ : St} {H : Hp} {s : Shared} {fp : List Addr} (I : Inv X pins σ H s) (hf : ∀ b ∈ fp, FpOk X pins H b) (ho : ∀ b ∈ fp, ∃ o, s.heap.get? b = some o ∧ ∀ v, o.data ≠ .cell v) : Inv X (pins ++ pinsAt fp s.heap) σ H s :=
  I.pins_of fun p hp => (List.mem_append.mp hp).elim (fun z => I.pin p (List.mem_append_right _ z)) fun z => by
    obtain ⟨hb, e⟩ := of_pinsAt z
    obtain ⟨f0, f1, f2, _⟩ := hf p.1 hb
    obtain ⟨o, e', d⟩ := ho p.1 hb
    rw [e] at e'; cases e'
    exact ⟨e, f0, f1, f2, d⟩
theorem Inv.unpinned {pins pl : List (Addr × Obj)} {σ : St} {H : Hp} {s : Shared} (I : Inv X (pins ++ pl) σ H s) : Inv X pins σ H s := I.pins_of fun p hp => I.pin p (List.mem_append_right _ (List.mem_append_left _ hp))
theorem ps_for {iter : Expr} {body : List Stmt} {wi : TI} {g : TG} {tb : TS} {pos : Pos} (hp : PassesOwn (model X.prog X.w) X.A X.env X.xe) (hc : X.calm = true) (hi : PI X tg iter wi) (hg : PG X tg g) (hb : PSs X body tb)
    (hs : ∀ x, foldedSetIterable iter X.env x = pure x := by intro _; rfl) : PS X (.For tg iter body [] pos) (tFor wi g tb) := by
  intro pins s σ H D I h
  refine wpAny_For (thn (hi pins s σ H _ I h) fun v s1 h1 => thn h1 fun itv s2 h2 => ?_) hs
  obtain ⟨it, fp, tn, J, H2, e, I2, T, st2, f2, W, ⟨m0, w0⟩, turn⟩ := h2
  subst e
  -- what stays true of the iterator's objects through the loop
  have stat : ∀ {H' : Hp}, (∀ b ∈ fp, H' b = none) → ∀ b ∈ fp, FpOk X pins H' b := fun hn b hb => ⟨hn b hb, (f2 b hb).2⟩
  refine codeAny_forLoop_any (fun n s' => ∃ i σ' H', Inv X pins σ' H' s' ∧ tn i s'.heap ∧ (∀ b ∈ fp, H' b = none) ∧ W i n σ' H') ?_ m0 ⟨0, σ, H2, I2, st2, fun b hb => (f2 b hb).1, w0⟩
  rintro n s3 ⟨i, σ3, H3, I3, st3, fr3, w3⟩
  rcases turn i n σ3 H3 w3 with ⟨stop, qn⟩ | ⟨go, N, hN, step⟩
  · refine wpAny_passesOwn hp (thn (T.done X rfl rfl rfl hc i pins s3 σ3 H3 X.xe I3 (stat fr3) st3 stop) fun r s4 ⟨hr, I4⟩ => ?_)
    subst hr
    exact wpAny_execs_nil ⟨σ3, H3, I4, qn⟩
  · refine wpAny_passesOwn hp (thn (T.item X rfl rfl rfl hc i pins s3 σ3 H3 X.xe I3 (stat fr3) st3 go) fun r s4 ⟨u, hr, h4⟩ => ?_)
    subst hr
    refine wpAny_passesOwn hp (thn h4 fun _ s5 ⟨x, H5, I5, r5, y5, st5, fr5⟩ => ?_)
    have I5' := I5.pinned (stat fr5) (T.obj _ _ st5)
    refine wpAny_passesOwn hp (thn (hg _ s5 σ3 H5 x u _ I5' r5 (step x H5 y5)) fun _ s6 ⟨σ6, H6, I6, q6⟩ => ?_)
    refine wpAny_passesOwn hp (thn (hb _ s6 σ6 H6 _ I6 q6) fun f s7 q7 => ?_)
    have again : ∀ {σ7 : St} {H7 : Hp}, Inv X (pins ++ pinsAt fp s5.heap) σ7 H7 s7 → N σ7 H7 → ∃ m, m < n ∧ ∃ i σ' H', Inv X pins σ' H' s7 ∧ tn i s7.heap ∧ (∀ b ∈ fp, H' b = none) ∧ W i m σ' H' := fun {σ7 H7} I7 n7 => by
      obtain ⟨m', hm, w7⟩ := hN σ7 H7 n7
      refine ⟨m', hm, i + 1, σ7, H7, I7.unpinned, T.keep _ _ _ st5 fun b hb o e => (I7.pin (b, o) (List.mem_append_right _ (List.mem_append_right _ (mem_pinsAt hb e)))).1, fun b hb => ?_, w7⟩
      obtain ⟨o, e, d⟩ := T.obj _ _ st5 b hb
      exact (I7.pin (b, o) (List.mem_append_right _ (List.mem_append_right _ (mem_pinsAt hb e)))).2.1
    cases f with
    | next => obtain ⟨σ7, H7, I7, n7⟩ := q7; exact again I7 n7
    | cont => obtain ⟨σ7, H7, I7, n7⟩ := q7; exact again I7 n7
    | brk => obtain ⟨σ7, H7, I7, q7⟩ := q7; exact ⟨σ7, H7, I7.unpinned, q7⟩
    | ret v => obtain ⟨x7, σ7, H7, I7, r7, q7⟩ := q7; exact ⟨x7, σ7, H7, I7.unpinned, r7, q7⟩
end

/-! ### the forms one uses -/
/-- over a list that the body leaves as it is -/
theorem for_list {K : PySem.W.Frag} {a : Addr} {xs : List V} {g : TG} {tb : TS} {D : Ends} {σ : St} {H : Hp} (Pv : Nat → St → Hp → Prop) (h0 : Pv 0 σ H) (hl : ∀ i σ H, i ≤ xs.length → Pv i σ H → SqL K H a xs)
    (hs : ∀ i x σ H, xs[i]? = some x → Pv i σ H → g x σ H fun σ2 H2 => tb { D with nx := Pv (i + 1), ct := Pv (i + 1), bk := D.nx } σ2 H2) (hd : ∀ σ H, Pv xs.length σ H → D.nx σ H) :
    ∃ W : Nat → Nat → St → Hp → Prop, (∃ m, W 0 m σ H) ∧ ∀ i m σ H, W i m σ H →
      ((Itl K a).stop i H ∧ D.nx σ H) ∨ ((Itl K a).go i H ∧ ∃ N : St → Hp → Prop, (∀ σ' H', N σ' H' → ∃ m', m' < m ∧ W (i + 1) m' σ' H') ∧ ∀ x H', (Itl K a).yld i H x H' → g x σ H' fun σ2 H2 => tb { D with nx := N, ct := N, bk := D.nx } σ2 H2) := by
  refine ⟨fun i m σ H => m = xs.length - i ∧ i ≤ xs.length ∧ Pv i σ H, ⟨xs.length, by simp, Nat.zero_le _, h0⟩, ?_⟩
  rintro i m σ H ⟨rfl, hi, p⟩
  have q := hl i σ H hi p
  by_cases hlt : i < xs.length
  · refine .inr ⟨⟨xs, xs[i], q, by simp [hlt]⟩, Pv (i + 1), fun σ' H' p' => ⟨xs.length - (i + 1), by omega, rfl, hlt, p'⟩, fun x H' y => ?_⟩
    obtain ⟨e, y⟩ := y
    subst e
    exact hs i x σ _ (y xs q) p
  · have e : i = xs.length := by omega
    subst e
    exact .inl ⟨⟨xs, q, Nat.le_refl _⟩, hd σ H p⟩
theorem for_tup {K : PySem.W.Frag} {a : Addr} {xs : List V} {g : TG} {tb : TS} {D : Ends} {σ : St} {H : Hp} (Pv : Nat → St → Hp → Prop) (h0 : Pv 0 σ H) (hl : ∀ i σ H, i ≤ xs.length → Pv i σ H → SqT K H a xs)
    (hs : ∀ i x σ H, xs[i]? = some x → Pv i σ H → g x σ H fun σ2 H2 => tb { D with nx := Pv (i + 1), ct := Pv (i + 1), bk := D.nx } σ2 H2) (hd : ∀ σ H, Pv xs.length σ H → D.nx σ H) :
    ∃ W : Nat → Nat → St → Hp → Prop, (∃ m, W 0 m σ H) ∧ ∀ i m σ H, W i m σ H →
      ((Itt K a).stop i H ∧ D.nx σ H) ∨ ((Itt K a).go i H ∧ ∃ N : St → Hp → Prop, (∀ σ' H', N σ' H' → ∃ m', m' < m ∧ W (i + 1) m' σ' H') ∧ ∀ x H', (Itt K a).yld i H x H' → g x σ H' fun σ2 H2 => tb { D with nx := N, ct := N, bk := D.nx } σ2 H2) := by
  refine ⟨fun i m σ H => m = xs.length - i ∧ i ≤ xs.length ∧ Pv i σ H, ⟨xs.length, by simp, Nat.zero_le _, h0⟩, ?_⟩
  rintro i m σ H ⟨rfl, hi, p⟩
  have q := hl i σ H hi p
  by_cases hlt : i < xs.length
  · refine .inr ⟨⟨xs, xs[i], q, by simp [hlt]⟩, Pv (i + 1), fun σ' H' p' => ⟨xs.length - (i + 1), by omega, rfl, hlt, p'⟩, fun x H' y => ?_⟩
    obtain ⟨e, y⟩ := y
    subst e
    exact hs i x σ _ (y xs q) p
  · have e : i = xs.length := by omega
    subst e
    exact .inl ⟨⟨xs, q, Nat.le_refl _⟩, hd σ H p⟩
end L2

namespace L2
open PySem PySem.Spec PyProof.Rows

abbrev R2 := V → V → Hp → VK → Prop
/-- a two-place operation on values: f is binaryOp op, inplaceOp op or compareOp op -/
def OpR (X : Cx) (f : Value → Value → Sem Value) (r : R2) : Prop :=
  ∀ (pins : List (Addr × Obj)) (s : Shared) (σ : St) (H : Hp) (x y : V) (v u : Value) (Q : VK), Inv X pins σ H s → RelV x v → RelV y u → r x y H Q →
    wpAny (model X.prog X.w) X.A (f v u) (EP X pins σ Q) X.xe s
/-- a one-place operation -/
def UnR (X : Cx) (f : Value → Sem Value) (r : V → Hp → VK → Prop) : Prop :=
  ∀ (pins : List (Addr × Obj)) (s : Shared) (σ : St) (H : Hp) (x : V) (v : Value) (Q : VK), Inv X pins σ H s → RelV x v → r x H Q →
    wpAny (model X.prog X.w) X.A (f v) (EP X pins σ Q) X.xe s
/-- a call of a value that is known (a builtin, a type) with values -/
def CallR (X : Cx) (f : Value) (r : List V → Hp → VK → Prop) : Prop :=
  ∀ (pins : List (Addr × Obj)) (s : Shared) (σ : St) (H : Hp) (xs : List V) (us : List Value) (Q : VK), Inv X pins σ H s → Vals xs us → r xs H Q →
    wpAny (model X.prog X.w) X.A (call f us) (EP X pins σ Q) X.xe s
/-- a value's truth -/
def TruR (X : Cx) (r : V → Hp → (Bool → Hp → Prop) → Prop) : Prop :=
  ∀ (pins : List (Addr × Obj)) (s : Shared) (σ : St) (H : Hp) (x : V) (v : Value) (Q : Bool → Hp → Prop), Inv X pins σ H s → RelV x v → r x H Q →
    wpAny (model X.prog X.w) X.A (truthy v) (TP X pins σ Q) X.xe s

def tOp (r : R2) (ta tb : TE) : TE := fun σ H Q => ta σ H fun x H1 => tb σ H1 fun y H2 => r x y H2 Q
def tUn (r : V → Hp → VK → Prop) (ta : TE) : TE := fun σ H Q => ta σ H fun x H1 => r x H1 Q
/-- ints in, under C, and a value out -/
def rI (C : Int → Int → Prop) (g : Int → Int → V) : R2 := fun x y H Q => ∃ i j, x = .int i ∧ y = .int j ∧ C i j ∧ Q (g i j) H
def rI0 (g : Int → Int → V) : R2 := fun x y H Q => ∃ i j, x = .int i ∧ y = .int j ∧ Q (g i j) H
def rU (g : Int → V) : V → Hp → VK → Prop := fun x H Q => ∃ i, x = .int i ∧ Q (g i) H

section
variable {X : Cx} {a b c : Expr} {ta tb tc : TE} {pos : Pos}

theorem binT (ha : PE X a ta) (hb : PE X b tb) {pins : List (Addr × Obj)} {s : Shared} {σ : St} {H : Hp} {R : V → V → Hp → Prop} (I : Inv X pins σ H s)
    (h : ta σ H fun x H1 => tb σ H1 fun y H2 => R x y H2) {Q : Value → Shared → Prop} {f : Value → Value → Sem Value}
    (hf : ∀ v u s2 x y H2, Inv X pins σ H2 s2 → RelV x v → RelV y u → R x y H2 → wpAny (model X.prog X.w) X.A (f v u) Q X.xe s2) :
    wpAny (model X.prog X.w) X.A (eval a X.env) (fun v s₁ => wpAny (model X.prog X.w) X.A (eval b X.env) (fun u s₂ => wpAny (model X.prog X.w) X.A (f v u) Q X.xe s₂) X.xe s₁) X.xe s := by
  refine thn (ha pins s σ H _ I h) fun v s1 ⟨x, H1, I1, r1, q1⟩ => ?_
  refine thn (hb pins s1 σ H1 _ I1 q1) fun u s2 ⟨y, H2, I2, r2, q2⟩ => ?_
  exact hf v u s2 x y H2 I2 r1 r2 q2

theorem pe_op {op : Operator} {r : R2} (ho : OpR X (binaryOp op) r) (ha : PE X a ta) (hb : PE X b tb) : PE X (.BinOp a op b pos) (tOp r ta tb) := by
  intro pins s σ H Q I h
  exact wpAny_BinOp (binT ha hb I h fun v u s2 x y H2 I2 rx ry q => ho pins s2 σ H2 x y v u Q I2 rx ry q)
theorem pe_un {op : UnaryOp} {r : V → Hp → VK → Prop} (ho : UnR X (unaryOp op) r) (ha : PE X a ta) : PE X (.UnaryOp op a pos) (tUn r ta) := by
  intro pins s σ H Q I h
  exact UnaryOp_ (thn (ha pins s σ H _ I h) fun v s1 ⟨x, H1, I1, r1, q1⟩ => ho pins s1 σ H1 x v Q I1 r1 q1)
/-! ### ints -/
theorem opI {f : Value → Value → Sem Value} {C : Int → Int → Prop} {g : Int → Int → Int}
    (rule : ∀ (i j : Int) (t u : Tok) (s : Shared) (Q : Value → Shared → Prop) (E : Value → Shared → Prop), C i j → Q (.int (g i j) s.toks) { s with toks := s.toks + 1 } → wpAny (model X.prog X.w) X.A (f (.int i t) (.int j u)) Q E s) :
    OpR X f (rI C fun i j => .int (g i j)) := by
  intro pins s σ H x y v u Q I rx ry h
  obtain ⟨i, j, rfl, rfl, hc, q⟩ := h
  obtain ⟨t, rfl⟩ := rx
  obtain ⟨t', rfl⟩ := ry
  exact rule i j t t' s _ _ hc ⟨.int (g i j), H, I.tok _, ⟨_, rfl⟩, q⟩
theorem opI0 {f : Value → Value → Sem Value} {g : Int → Int → Int}
    (rule : ∀ (i j : Int) (t u : Tok) (s : Shared) (Q : Value → Shared → Prop) (E : Value → Shared → Prop), Q (.int (g i j) s.toks) { s with toks := s.toks + 1 } → wpAny (model X.prog X.w) X.A (f (.int i t) (.int j u)) Q E s) :
    OpR X f (rI0 fun i j => .int (g i j)) := by
  intro pins s σ H x y v u Q I rx ry h
  obtain ⟨i, j, rfl, rfl, q⟩ := h
  obtain ⟨t, rfl⟩ := rx
  obtain ⟨t', rfl⟩ := ry
  exact rule i j t t' s _ _ ⟨.int (g i j), H, I.tok _, ⟨_, rfl⟩, q⟩
theorem opB0 {f : Value → Value → Sem Value} {g : Int → Int → Bool}
    (rule : ∀ (i j : Int) (t u : Tok) (s : Shared) (Q : Value → Shared → Prop) (E : Value → Shared → Prop), Q (.bool (g i j)) s → wpAny (model X.prog X.w) X.A (f (.int i t) (.int j u)) Q E s) :
    OpR X f (rI0 fun i j => .bl (g i j)) := by
  intro pins s σ H x y v u Q I rx ry h
  obtain ⟨i, j, rfl, rfl, q⟩ := h
  obtain ⟨t, rfl⟩ := rx
  obtain ⟨t', rfl⟩ := ry
  exact rule i j t t' s _ _ ⟨.bl (g i j), H, I, rfl, q⟩

def CDiv (i j : Int) : Prop := 0 < j ∧ j < 1073741824
def CDivN (i j : Int) : Prop := j ≠ 0 ∧ j.natAbs < 1073741824
def CPow (i j : Int) : Prop := 0 ≤ j ∧ j ≤ 1000000 ∧ i.natAbs < 2 ^ 64
def CMul (i j : Int) : Prop := (-(2 ^ 64) < i ∧ i < 2 ^ 64) ∨ (-(2 ^ 64) < j ∧ j < 2 ^ 64)
theorem CMul.ok {i j : Int} (h : CMul i j) : IntMulOk i j := by
  rcases h with ⟨h1, h2⟩ | ⟨h1, h2⟩
  · exact .of_left (intBits_le_64 h1 h2)
  · exact .of_right (intBits_le_64 h1 h2)
theorem two_pow_nn (k : Nat) : (0 : Int) ≤ 2 ^ k := by
  rw [two_pow_cast]
  exact Int.natCast_nonneg _

theorem op_add : OpR X (binaryOp .Add) (rI0 fun i j => .int (i + j)) := opI0 fun _ _ _ _ _ _ _ q => add_int q
theorem op_mul : OpR X (binaryOp .Mult) (rI CMul fun i j => .int (i * j)) := opI fun _ _ _ _ _ _ _ hc q => mul_int q hc.ok
/-- // by a positive divisor -/
theorem op_fdiv : OpR X (binaryOp .FloorDiv) (rI CDiv fun i j => .int (i / j)) := opI fun i j _ _ _ _ _ hc q => by
  have h1 : (0 : Int) < j := hc.1
  have h2 : j < 1073741824 := hc.2
  exact floordiv_int (by omega) (by rw [Int.fdiv_eq_ediv_of_nonneg i (by omega)]; exact q) (.inl (PyProof.noPylong_small (by omega)))
/-- % by a positive divisor of any size -/
theorem op_mod : OpR X (binaryOp .Mod) (rI (fun _ j => 0 < j) fun i j => .int (i % j)) := opI fun i j _ _ _ _ _ hc q => by
  have h1 : (0 : Int) < j := hc
  exact mod_int' (by omega) (by rw [Int.fmod_eq_emod_of_nonneg i (by omega)]; exact q)
theorem op_pow : OpR X (binaryOp .Pow) (rI CPow fun i j => .int (i ^ j.toNat)) := opI fun _ _ _ _ _ _ _ hc q => pow_int_small hc.1 hc.2.1 hc.2.2 q
theorem op_shl : OpR X (binaryOp .LShift) (rI CPow fun i j => .int (i * 2 ^ j.toNat)) := opI fun _ _ _ _ _ _ _ hc q => lshift_int_small hc.1 hc.2.1 hc.2.2 q
theorem op_shr : OpR X (binaryOp .RShift) (rI (fun _ j => 0 ≤ j) fun i j => .int (i / 2 ^ j.toNat)) := opI fun i j _ _ _ _ _ hc q =>
  rshift_int hc (by rw [Int.fdiv_eq_ediv_of_nonneg i (two_pow_nn _)]; exact q)
theorem op_and : OpR X (binaryOp .BitAnd) (rI0 fun i j => .int (Builtin.bitAnd i j)) := opI0 fun _ _ _ _ _ _ _ q => and_int q
theorem op_or : OpR X (binaryOp .BitOr) (rI0 fun i j => .int (Builtin.bitOr i j)) := opI0 fun _ _ _ _ _ _ _ q => or_int q
theorem unI {f : Value → Sem Value} {g : Int → Int}
    (rule : ∀ (i : Int) (t : Tok) (s : Shared) (Q : Value → Shared → Prop) (E : Value → Shared → Prop), Q (.int (g i) s.toks) { s with toks := s.toks + 1 } → wpAny (model X.prog X.w) X.A (f (.int i t)) Q E s) :
    UnR X f (rU fun i => .int (g i)) := by
  intro pins s σ H x v Q I rx h
  obtain ⟨i, rfl, q⟩ := h
  obtain ⟨t, rfl⟩ := rx
  exact rule i t s _ _ ⟨.int (g i), H, I.tok _, ⟨_, rfl⟩, q⟩
theorem un_inv : UnR X (unaryOp .Invert) (rU fun i => .int (Builtin.bitNot i)) := unI fun _ _ _ _ _ q => invert_int q

/-! ### bools among ints: n += (a < b) -/
end

/-! ### comparisons -/
/-- the scalars that == tells apart as data does -/
def scal : V → V → Bool
  | .non, .non => true | .non, .int _ => true | .int _, .non => true | .non, .bl _ => true | .bl _, .non => true | .non, .str _ => true | .str _, .non => true
  | .int _, .int _ => true | .bl _, .bl _ => true | .str _, .str _ => true | .byt _, .byt _ => true
  | .int _, .str _ => true | .str _, .int _ => true | .bl _, .str _ => true | .str _, .bl _ => true
  | _, _ => false
def rEq : R2 := fun x y H Q => scal x y = true ∧ Q (.bl (decide (x = y))) H
def rNe : R2 := fun x y H Q => scal x y = true ∧ Q (.bl (!decide (x = y))) H

theorem dec_int {i j : Int} : decide (V.int i = V.int j) = (i == j) := by
  rw [Bool.eq_iff_iff]
  simp
theorem dec_bl {i j : Bool} : decide (V.bl i = V.bl j) = (i == j) := by
  rw [Bool.eq_iff_iff]
  simp
theorem dec_str {i j : Str} : decide (V.str i = V.str j) = (i == j) := by
  rw [Bool.eq_iff_iff]
  simp
theorem dec_byt {i j : Array UInt8} : decide (V.byt i = V.byt j) = (i.toList == j.toList) := by
  rw [Bool.eq_iff_iff]
  cases i
  cases j
  simp

section
variable {X : Cx} {a b c : Expr} {ta tb tc : TE} {pos : Pos}
theorem fin_bl {pins : List (Addr × Obj)} {σ : St} {H : Hp} {s : Shared} {Q : VK} {k k' : Bool} (I : Inv X pins σ H s) (q : Q (.bl k) H) (e : k = k') : EP X pins σ Q (.bool k') s := by
  subst e
  exact ⟨.bl k, H, I, rfl, q⟩
theorem op_eq : OpR X (compareOp .Eq) rEq := by
  intro pins s σ H x y v u Q I rx ry h
  obtain ⟨hs, q⟩ := h
  cases x with
  | non =>
    cases rx
    cases y with
    | non => cases ry; exact PySem.EqNone.eq_none_none (fin_bl I q (by simp))
    | bl j => cases ry; exact PySem.EqNone.eq_none_bool (fin_bl I q (by simp))
    | int j => obtain ⟨t', rfl⟩ := ry; exact PySem.EqNone.eq_none_int (fin_bl I q (by simp))
    | str j => obtain ⟨t', rfl⟩ := ry; exact PySem.EqNone.eq_none_str (fin_bl I q (by simp))
    | _ => exact absurd (show false = true from hs) Bool.false_ne_true
  | bl i =>
    cases rx
    cases y with
    | non => cases ry; exact PySem.EqNone.eq_bool_none (fin_bl I q (by simp))
    | bl j => cases ry; exact eq_bool (fin_bl I q dec_bl)
    | str j => obtain ⟨t', rfl⟩ := ry; exact PySem.EqMixed.eq_bool_str (fin_bl I q (by simp))
    | _ => exact absurd (show false = true from hs) Bool.false_ne_true
  | int i =>
    obtain ⟨t, rfl⟩ := rx
    cases y with
    | non => cases ry; exact PySem.EqNone.eq_int_none (fin_bl I q (by simp))
    | int j => obtain ⟨t', rfl⟩ := ry; exact eq_int (fin_bl I q dec_int)
    | str j => obtain ⟨t', rfl⟩ := ry; exact PySem.EqMixed.eq_int_str (fin_bl I q (by simp))
    | _ => exact absurd (show false = true from hs) Bool.false_ne_true
  | str i =>
    obtain ⟨t, rfl⟩ := rx
    cases y with
    | non => cases ry; exact PySem.EqNone.eq_str_none (fin_bl I q (by simp))
    | bl j => cases ry; exact PySem.EqMixed.eq_str_bool (fin_bl I q (by simp))
    | int j => obtain ⟨t', rfl⟩ := ry; exact PySem.EqMixed.eq_str_int (fin_bl I q (by simp))
    | str j => obtain ⟨t', rfl⟩ := ry; exact eq_str (fin_bl I q dec_str)
    | _ => exact absurd (show false = true from hs) Bool.false_ne_true
  | byt i =>
    obtain ⟨t, rfl⟩ := rx
    cases y with
    | byt j => obtain ⟨t', rfl⟩ := ry; exact PySem.W.eq_bytes (fin_bl I q dec_byt)
    | _ => exact absurd (show false = true from hs) Bool.false_ne_true
  | _ => cases y <;> exact absurd (show false = true from hs) Bool.false_ne_true
theorem op_ne : OpR X (compareOp .NotEq) rNe := by
  intro pins s σ H x y v u Q I rx ry h
  obtain ⟨hs, q⟩ := h
  cases x with
  | non =>
    cases rx
    cases y with
    | non => cases ry; exact PySem.EqNone.ne_none_none (fin_bl I q (by simp))
    | bl j => cases ry; exact PySem.EqNone.ne_none_bool (fin_bl I q (by simp))
    | int j => obtain ⟨t', rfl⟩ := ry; exact PySem.EqNone.ne_none_int (fin_bl I q (by simp))
    | str j => obtain ⟨t', rfl⟩ := ry; exact PySem.EqNone.ne_none_str (fin_bl I q (by simp))
    | _ => exact absurd (show false = true from hs) Bool.false_ne_true
  | bl i =>
    cases rx
    cases y with
    | non => cases ry; exact PySem.EqNone.ne_bool_none (fin_bl I q (by simp))
    | bl j => cases ry; exact ne_bool (fin_bl I q (congrArg not dec_bl))
    | str j => obtain ⟨t', rfl⟩ := ry; exact PySem.EqMixed.ne_bool_str (fin_bl I q (by simp))
    | _ => exact absurd (show false = true from hs) Bool.false_ne_true
  | int i =>
    obtain ⟨t, rfl⟩ := rx
    cases y with
    | non => cases ry; exact PySem.EqNone.ne_int_none (fin_bl I q (by simp))
    | int j => obtain ⟨t', rfl⟩ := ry; exact ne_int (fin_bl I q (congrArg not dec_int))
    | str j => obtain ⟨t', rfl⟩ := ry; exact PySem.EqMixed.ne_int_str (fin_bl I q (by simp))
    | _ => exact absurd (show false = true from hs) Bool.false_ne_true
  | str i =>
    obtain ⟨t, rfl⟩ := rx
    cases y with
    | non => cases ry; exact PySem.EqNone.ne_str_none (fin_bl I q (by simp))
    | bl j => cases ry; exact PySem.EqMixed.ne_str_bool (fin_bl I q (by simp))
    | int j => obtain ⟨t', rfl⟩ := ry; exact PySem.EqMixed.ne_str_int (fin_bl I q (by simp))
    | str j => obtain ⟨t', rfl⟩ := ry; exact ne_str (fin_bl I q (congrArg not dec_str))
    | _ => exact absurd (show false = true from hs) Bool.false_ne_true
  | byt i =>
    obtain ⟨t, rfl⟩ := rx
    cases y with
    | byt j => obtain ⟨t', rfl⟩ := ry; exact PySem.W.ne_bytes (fin_bl I q (congrArg not dec_byt))
    | _ => exact absurd (show false = true from hs) Bool.false_ne_true
  | _ => cases y <;> exact absurd (show false = true from hs) Bool.false_ne_true

theorem op_lt : OpR X (compareOp .Lt) (rI0 fun i j => .bl (decide (i < j))) := opB0 fun _ _ _ _ _ _ _ q => lt_int q
theorem op_le : OpR X (compareOp .LtE) (rI0 fun i j => .bl (decide (i ≤ j))) := opB0 fun _ _ _ _ _ _ _ q => le_int q
theorem op_gt : OpR X (compareOp .Gt) (rI0 fun i j => .bl (decide (j < i))) := opB0 fun _ _ _ _ _ _ _ q => gt_int q
/-- the one string within the other -/
theorem op_in_str : OpR X (compareOp .In) (fun x y H Q => ∃ i j, x = .str i ∧ y = .str j ∧ Q (.bl (!(Builtin.Str.occurrences j i 0 j.length 1).isEmpty)) H) := by
  intro pins s σ H x y v u Q I rx ry h
  obtain ⟨i, j, rfl, rfl, q⟩ := h
  obtain ⟨t, rfl⟩ := rx
  obtain ⟨t', rfl⟩ := ry
  exact in_str (fin_bl I q rfl)

/-- is None, is not None: the right side a value none -/
theorem op_isN : OpR X (compareOp .Is) (fun x y H Q => y = .non ∧ Q (.bl (decide (x = .non))) H) := by
  intro pins s σ H x y v u Q I rx ry h
  obtain ⟨rfl, q⟩ := h
  cases ry
  refine is_none_gen (fin_bl I q ?_)
  cases x <;> first
    | (cases rx; rfl)
    | (obtain ⟨t, rfl⟩ := rx; rfl)
theorem op_notN : OpR X (compareOp .IsNot) (fun x y H Q => y = .non ∧ Q (.bl (!decide (x = .non))) H) := by
  intro pins s σ H x y v u Q I rx ry h
  obtain ⟨rfl, q⟩ := h
  cases ry
  refine isnot_none_gen (fin_bl I q ?_)
  cases x <;> first
    | (cases rx; rfl)
    | (obtain ⟨t, rfl⟩ := rx; rfl)

/-- is, is not of two objects that are tracked lists or instances -/
def isObj : HO → Bool
  | .lst _ => true
  | .ins _ _ _ => true
  | _ => false
/-- two rules for one operation: by cases -/
theorem OpR.or {f : Value → Value → Sem Value} {r r' : R2} (h : OpR X f r) (h' : OpR X f r') : OpR X f (fun x y H Q => r x y H Q ∨ r' x y H Q) := by
  intro pins s σ H x y v u Q I rx ry q
  rcases q with q | q
  · exact h pins s σ H x y v u Q I rx ry q
  · exact h' pins s σ H x y v u Q I rx ry q

theorem nomark (b : Expr) {op : CmpOp} (h : op ≠ .In := by decide) (h2 : op ≠ .NotIn := by decide) : behindInMarks op b = false := by
  have e1 : (op == CmpOp.In) = false := by cases op <;> first | rfl | exact absurd rfl h
  have e2 : (op == CmpOp.NotIn) = false := by cases op <;> first | rfl | exact absurd rfl h2
  cases b <;> simp [behindInMarks, e1, e2]
/-- a comparison as a value; hm: nomark b, or (for in, not in) by with_unfolding_all rfl -/
theorem pe_cmpR {op : CmpOp} {r : R2} (ho : OpR X (compareOp op) r) (ha : PE X a ta) (hb : PE X b tb) (hm : behindInMarks op b = false) : PE X (.Compare a [op] [b] pos) (tOp r ta tb) := by
  intro pins s σ H Q I h
  exact wpAny_Compare1 (binT ha hb I h fun v u s2 x y H2 I2 rx ry q => ho pins s2 σ H2 x y v u Q I2 rx ry q) hm
/-- a reading of a value as a test -/
def tTest (t : TE) : TT := fun σ H Q => t σ H fun x H' => ∃ k, x = .bl k ∧ Q k H'
theorem pt_cmpR {op : CmpOp} {r : R2} (ho : OpR X (compareOp op) r) (ha : PE X a ta) (hb : PE X b tb) (hm : behindInMarks op b = false) : PT X (.Compare a [op] [b] pos) (tTest (tOp r ta tb)) := by
  intro pins s σ H Q I h
  refine wpAny_isTrue_Compare1 (thn (ha pins s σ H _ I h) fun v s1 ⟨x, H1, I1, r1, q1⟩ => thn (hb pins s1 σ H1 _ I1 q1) fun u s2 ⟨y, H2, I2, r2, q2⟩ =>
    thn (ho pins s2 σ H2 x y v u _ I2 r1 r2 q2) fun c s3 ⟨z, H3, I3, r3, k, e, q3⟩ => ?_) hm
  subst e
  cases r3
  exact wpAny_truthy_bool ⟨H3, I3, q3⟩
/-- a op1 b op2 c -/
def tChain (r r' : R2) (ta tb tc : TE) : TE := fun σ H Q => ta σ H fun x H1 => tb σ H1 fun y H2 => r x y H2 fun z H3 => ∃ k, z = .bl k ∧
  (if k = true then tc σ H3 fun w' H4 => r' y w' H4 Q else Q (.bl false) H3)
theorem pt_chain {op op' : CmpOp} {r r' : R2} (ho : OpR X (compareOp op) r) (ho' : OpR X (compareOp op') r') (ha : PE X a ta) (hb : PE X b tb) (hc : PE X c tc)
    (hm : lastMarks [op, op'] [b, c] = false := by with_unfolding_all rfl) : PT X (.Compare a [op, op'] [b, c] pos) (tTest (tChain r r' ta tb tc)) := by
  intro pins s σ H Q I h
  refine isTrue_chain (thn (ha pins s σ H _ I h) fun v s1 ⟨x, H1, I1, r1, q1⟩ => test_link (thn (hb pins s1 σ H1 _ I1 q1) fun u s2 ⟨y, H2, I2, r2, q2⟩ =>
    thn (ho pins s2 σ H2 x y v u _ I2 r1 r2 q2) fun d s3 ⟨z, H3, I3, r3, k, e, q3⟩ => ?_)) hm
  subst e
  cases r3
  refine wpAny_truthy_bool ?_
  cases k with
  | false =>
    obtain ⟨k', e', q'⟩ := q3
    cases e'
    exact ite_ff ⟨H3, I3, q'⟩
  | true =>
    refine ite_tt (test_last (thn (hc pins s3 σ H3 _ I3 q3) fun w' s4 ⟨z', H4, I4, r4, q4⟩ => thn (ho' pins s4 σ H4 y z' u w' _ I4 r2 r4 q4) fun d' s5 ⟨z2, H5, I5, r5, k2, e2, q5⟩ => ?_))
    subst e2
    cases r5
    exact wpAny_truthy_bool ⟨H5, I5, q5⟩

/-! ### truth -/
/-- a value's truth by the abstract heap -/
def TruV (K : PySem.W.Frag) (x : V) (H : Hp) (k : Bool) : Prop :=
  match x with
  | .non => k = false
  | .bl b => k = b
  | .int i => k = (i != 0)
  | .str y => y.length ≤ sizeLine ∧ k = ((y.length : Int) != 0)
  | .byt y => y.size ≤ sizeLine ∧ k = ((y.size : Int) != 0)
  | .ref p => (∃ xs, SqL K H p xs ∧ k = !xs.isEmpty) ∨ (∃ xs, SqT K H p xs ∧ k = !xs.isEmpty) ∨ ∃ kvs, H p = some (.dK kvs) ∧ k = !kvs.isEmpty
  | _ => False
theorem isEmpty_kv {κ : Type} {kvs : List (κ × V)} {vs : List (κ × Value)} (r : KV kvs vs) : (!vs.isEmpty) = !kvs.isEmpty := by
  cases r <;> rfl
theorem isEmpty_of {xs : List V} {its : List Value} (r : Vals xs its) : (!its.toArray.isEmpty) = !xs.isEmpty := by
  cases r <;> simp
theorem line63 : (sizeLine : Nat) < 2 ^ 63 := by rw [sizeLine_eq]; decide
theorem tru_ok : TruR X (fun x H Q => ∃ k, TruV X.K x H k ∧ Q k H) := by
  intro pins s σ H x v Q I rx h
  obtain ⟨k, e, q⟩ := h
  have hl := line63
  have hs : sizeLine = 16777216 := sizeLine_eq
  cases x with
  | non =>
    cases rx
    have e' : k = false := e
    subst e'
    exact truthy_none ⟨H, I, q⟩
  | bl b =>
    cases rx
    have e' : k = b := e
    subst e'
    exact wpAny_truthy_bool ⟨H, I, q⟩
  | int i =>
    obtain ⟨t, rfl⟩ := rx
    have e' : k = (i != 0) := e
    subst e'
    exact PySem.P.truthy_int ⟨H, I, q⟩
  | str y =>
    obtain ⟨t, rfl⟩ := rx
    obtain ⟨hy, e'⟩ : y.length ≤ sizeLine ∧ k = ((y.length : Int) != 0) := e
    subst e'
    exact PySem.P.truthy_str (by omega) ⟨H, I.tok _, q⟩
  | byt y =>
    obtain ⟨t, rfl⟩ := rx
    obtain ⟨hy, e'⟩ : y.size ≤ sizeLine ∧ k = ((y.size : Int) != 0) := e
    subst e'
    exact PySem.W.truthy_bytes (by omega) ⟨H, I.tok _, q⟩
  | ref p =>
    cases rx
    have e' : (∃ xs, SqL X.K H p xs ∧ k = !xs.isEmpty) ∨ (∃ xs, SqT X.K H p xs ∧ k = !xs.isEmpty) ∨ ∃ kvs, H p = some (.dK kvs) ∧ k = !kvs.isEmpty := e
    rcases e' with ⟨xs, hx, e'⟩ | ⟨xs, hx, e'⟩ | ⟨kvs, hx, e'⟩
    · subst e'
      obtain ⟨its, r, pl, hz⟩ := I.list hx
      have hlen := r.length
      exact wpAny_truthy_list pl.isList (by simp only [List.size_toArray]; omega) ⟨H, I.tok _, by rw [isEmpty_of r]; exact q⟩
    · subst e'
      obtain ⟨its, r, pl, hz⟩ := I.tuple hx
      have hlen := r.length
      exact truthy_tuple pl (by simp only [List.size_toArray]; omega) ⟨H, I.tok _, by rw [isEmpty_of r]; exact q⟩
    · subst e'
      obtain ⟨hz, hS, vs, r, m⟩ : kvs.length ≤ sizeLine ∧ (p == sysModules) = false ∧ ∃ vs, KV kvs vs ∧ s.heap.DictOf (mixKind X.prog X.w) p vs := I.hok p _ hx
      have hlen : kvs.length = vs.length := Paired.length r
      exact wpAny_truthy_dict hS m (by omega) ⟨H, I.tok _, by rw [isEmpty_kv r]; exact q⟩
  | _ => exact (show False from e).elim
/-- any expression whose test is its value's truth (a name, a call, a subscript, a field ..: he by fun _ => rfl) -/
theorem pt_truth (ha : PE X a ta) (he : ∀ whole, isTrue a X.env whole = (do let v ← whole; standAt a.pos; holding [v] (truthy v))) :
    PT X a (fun σ H Q => ta σ H fun x H' => ∃ k, TruV X.K x H' k ∧ Q k H') := by
  intro pins s σ H Q I h
  exact isTrue_plain (thn (ha pins s σ H _ I h) fun v s1 ⟨x, H1, I1, r1, q1⟩ => tru_ok pins s1 σ H1 x v Q I1 r1 q1) (he _)

/-! ### strs and bytes -/
theorem op_add_str : OpR X (binaryOp .Add) (fun x y H Q => ∃ i j, x = .str i ∧ y = .str j ∧ i.length + j.length ≤ sizeLine ∧ Q (.str (i ++ j)) H) := by
  intro pins s σ H x y v u Q I rx ry h
  obtain ⟨i, j, rfl, rfl, hz, q⟩ := h
  obtain ⟨t, rfl⟩ := rx
  obtain ⟨t', rfl⟩ := ry
  exact add_str (fun t' tk => ⟨.str (i ++ j), H, I.tok _, ⟨_, rfl⟩, q⟩) hz
def PlainIxT (b : Expr) : Prop := ∀ o i, subscripted b false o i = operate [o, i] (getItem o i)
/-! ### scalar builtins, by CallR -/
theorem vals1 {x : V} {us : List Value} (r : Vals [x] us) : ∃ u, us = [u] ∧ RelV x u := by
  cases r with
  | cons r1 r2 => cases r2; exact ⟨_, rfl, r1⟩
theorem vals2 {x y : V} {us : List Value} (r : Vals [x, y] us) : ∃ u w', us = [u, w'] ∧ RelV x u ∧ RelV y w' := by
  cases r with
  | cons r1 r2 =>
    cases r2 with
    | cons r3 r4 => cases r4; exact ⟨_, _, rfl, r1, r3⟩
theorem call_max2 (hc : X.calm = true) : CallR X (.builtin "max") (fun xs H Q => ∃ i j, xs = [.int i, .int j] ∧ Q (.int (if j > i then j else i)) H) := by
  intro pins s σ H xs us Q I r h
  obtain ⟨i, j, rfl, q⟩ := h
  obtain ⟨u, w', rfl, ⟨t, rfl⟩, ⟨t', rfl⟩⟩ := vals2 r
  refine max_two_ints (I.ok.hd hc) fun h' tk k => ⟨_, H, I.kept k, ?_, q⟩
  by_cases hj : j > i
  · rw [if_pos hj, if_pos hj]; exact ⟨_, rfl⟩
  · rw [if_neg hj, if_neg hj]; exact ⟨_, rfl⟩
theorem call_min2 (hc : X.calm = true) : CallR X (.builtin "min") (fun xs H Q => ∃ i j, xs = [.int i, .int j] ∧ Q (.int (if j < i then j else i)) H) := by
  intro pins s σ H xs us Q I r h
  obtain ⟨i, j, rfl, q⟩ := h
  obtain ⟨u, w', rfl, ⟨t, rfl⟩, ⟨t', rfl⟩⟩ := vals2 r
  refine min_two_ints (I.ok.hd hc) fun h' tk k => ⟨_, H, I.kept k, ?_, q⟩
  by_cases hj : j < i
  · rw [if_pos hj, if_pos hj]; exact ⟨_, rfl⟩
  · rw [if_neg hj, if_neg hj]; exact ⟨_, rfl⟩
/-- len of a str, a bytes, a list, a tuple -/
def LenV (K : PySem.W.Frag) (x : V) (H : Hp) (n : Nat) : Prop :=
  match x with
  | .str y => y.length ≤ sizeLine ∧ n = y.length
  | .byt y => y.size ≤ sizeLine ∧ n = y.size
  | .ref p => (∃ xs, SqL K H p xs ∧ n = xs.length) ∨ ∃ xs, SqT K H p xs ∧ n = xs.length
  | _ => False
end
end L2

namespace L2
open PySem PySem.Spec PyProof.Rows

/-! ### an instance, its attributes a map -/
structure ObjM (h : Heap) (x dx C : Addr) (mA : Str → Option Value) : Prop where
  obj : h.get? x = some (PySem.W.instObj C dx)
  ns : h.Ns1 dx mA
  ne : dx ≠ x

theorem lookIn_ns {h : Heap} {dx : Addr} {mA : Str → Option Value} (n : h.Ns1 dx mA) : ∃ od, h.get? dx = some od ∧ ∀ name, PySem.W.lookIn name od = some (mA name) := by
  obtain ⟨o, es, ep, ho, hd, hk, _, hm⟩ := n
  refine ⟨o, ho, fun name => ?_⟩
  have e := hm name
  unfold nsFind findBy at e
  rw [← Array.find?_toList] at e
  unfold PySem.W.lookIn
  rw [hd]
  dsimp only
  split
  · rename_i y q
    rw [q] at e
    exact congrArg some e
  · rename_i q
    rw [q] at e
    have a : es.toList.any (·.refKey) = false := by
      rw [List.any_eq_false]
      intro y hy
      obtain ⟨z, t, hkey⟩ := hk y (Array.mem_toList_iff.mp hy)
      simp [DictEntry.refKey, hkey]
    have a' : ¬ es.toList.any (·.refKey) = true := by rw [a]; exact Bool.false_ne_true
    rw [if_neg a']
    exact congrArg some e

theorem ObjM.look {h : Heap} {x dx C : Addr} {mA : Str → Option Value} (I : ObjM h x dx C mA) : ∃ od, PySem.W.InstAt h x (PySem.W.instObj C dx) C (some od) ∧ ∀ name, PySem.W.lookIn name od = some (mA name) :=
  let ⟨od, ho, hl⟩ := lookIn_ns I.ns
  ⟨od, ⟨I.obj, rfl, rfl, ho⟩, hl⟩

section
variable {prog : Program} {w : World} {A : Around} {E : Value → Shared → Prop} {s : Shared} {K : PySem.W.Frag} {x dx C f : Addr} {mA : Str → Option Value} {name : Str} {v : Value}

theorem get_map {expr : Bool} {Q : Value → Shared → Prop} (X : K.In s.heap) (I : ObjM s.heap x dx C mA) (hg : PySem.W.plainGet K C name = true) (hh : PySem.W.hasDictIn K C = true)
    (ha : PySem.W.findIn K (.ref C) name = some none) (hv : mA name = some v) (hv' : PySem.W.handedIn v = true) (h : Q v { s with toks := s.toks + 1 }) :
    wpAny (model prog w) A (getAttr (.ref x) name expr) Q E s := by
  obtain ⟨od, J, hl⟩ := I.look
  exact PySem.W.get_value X J (PySem.W.plainGet_of hg).1 (PySem.W.findObj_own hh ha rfl (by rw [hl, hv])) hv' h

theorem get_meth {pl : Sem Bool} {Q : Value × List Value → Shared → Prop} (X : K.In s.heap) (I : ObjM s.heap x dx C mA) (hg : PySem.W.plainGet K C name = true)
    (hf : PySem.W.findIn K (.ref C) name = some (some (.ref f))) (ht : PySem.W.isFn K (.ref f) = true) (hv : mA name = none) (h : Q (.ref f, [.ref x]) s) :
    wpAny (model prog w) A (getMethod (.ref x) name pl) Q E s := by
  obtain ⟨od, J, hl⟩ := I.look
  exact PySem.W.method_fn X J (PySem.W.plainGet_of hg).1 (PySem.W.plainGet_of hg).2 hf (beq_iff_eq.mp ht) (by show (PySem.W.lookIn name od).map (·.isSome) = some false; rw [hl, hv]; rfl) h

theorem set_map {ns : List Str} {Q : Unit → Shared → Prop} (X : K.In s.heap) (I : ObjM s.heap x dx C mA)
    (hs : PySem.W.findIn K (.ref C) "__setattr__" = some (some (.builtin "object.__setattr__"))) (hp : PySem.W.plainOver K C = true) (ht : PySem.W.takerIn K C name = some none) (hh : PySem.W.hasDictIn K C = true)
    (hw : PySem.Within mA ns) (hsz : ns.length ≤ sizeLine)
    (h : ∀ h', ObjM h' x dx C (fun y => if y = name then some v else mA y) → Heap.SameBut dx s.heap h' → Q () { s with heap := h', toks := s.toks + 2 }) :
    wpAny (model prog w) A (setAttr (.ref x) name v) Q E s := by
  obtain ⟨od, J, hl⟩ := I.look
  refine PySem.W.set_plain X J hs (PySem.W.osa_open (s := { s with toks := s.toks + 1 }) (r := none) X J hp ht fun b => ?_)
  obtain ⟨cd, hc, hd'⟩ := PySem.W.any_some hh
  have hx : s.heap.get? x = some ⟨.ref C, some dx, .plain, #[]⟩ := I.obj
  refine wpAny_bind (wpAny_pure (wpAny_bind (wpAny_bind (wpAny_loadPart hx (wpAny_bind (PySem.W.Looks.here (s := { s with toks := s.toks + 1 }) (PySem.W.looks_clsIn X hc) ?_))))))
  rw [hd']
  refine wpAny_pure (a := some dx) (wpAny_bind (wpAny_pure (wpAny_bind ?_)))
  refine wpAny_nsSet1 (s := { s with toks := s.toks + 1 }) I.ns fun h' hn2 hs2 => ?_
  obtain ⟨oD, esD, epD, hoD, hdD, hcD⟩ := hn2.count (PySem.Within.cons name v hw)
  refine wpAny_bind (wpAny_lookBehind hoD (by rw [hdD]; exact pastItsLine_dict (Nat.le_trans hcD (by rw [List.length_cons]; omega))) ?_)
  exact wpAny_pure (h _ ⟨(hs2.2 _ (Ne.symm I.ne)).trans I.obj, hn2, I.ne⟩ hs2)

/-- C(..): the dict at the heap's end, the instance behind it; then its __init__ -/
theorem make_map {R : Result → Shared → Prop} {vs : List Value} {kw : List (Str × Value)} (X : K.In s.heap) (hm : PySem.W.makesIn K C = true)
    (hi : PySem.W.findIn K (.ref C) "__init__" = some (some (.ref f))) (hf : PySem.W.typeIn K (.ref f) = some (.type "function"))
    (h : codeAny (model prog w) (A.under (.builtin "type.__call__" ⟨.ref C :: vs, kw⟩)) (.call (.ref f) ⟨.ref (s.heap.objs.size + 1) :: vs, kw⟩) (PySem.W.InitBack (s.heap.objs.size + 1) R)
      { s with heap := (s.heap.push PySem.W.emptyDict).push (PySem.W.instObj C s.heap.objs.size) }) :
    codeAny (model prog w) A (.call (.ref C) ⟨vs, kw⟩) R s := by
  obtain ⟨hh, g, d, t, os⟩ := s
  exact PySem.W.make_core (PySem.W.makes_of X hm) (PySem.W.looks_findIn X hi) (fun self => PySem.W.bind_fn X self hf) (.inl rfl) h
end

/-! ### the attributes as a list of pairs -/
def putF (f : Str) (v : V) : List (Str × V) → List (Str × V)
  | [] => [(f, v)]
  | (g, x) :: r => if g = f then (g, v) :: r else (g, x) :: putF f v r
theorem lookup_putF (f g : Str) (v : V) : ∀ fs : List (Str × V), (putF f v fs).lookup g = if g = f then some v else fs.lookup g
  | [] => by
    show List.lookup g [(f, v)] = _
    by_cases h : g = f
    · have hb : (g == f) = true := beq_iff_eq.mpr h
      simp only [List.lookup, hb, if_pos h]
    · have hb : (g == f) = false := beq_eq_false_iff_ne.mpr h
      simp only [List.lookup, hb, if_neg h]
  | (k, x) :: r => by
    have ih := lookup_putF f g v r
    rw [show putF f v ((k, x) :: r) = (if k = f then (k, v) :: r else (k, x) :: putF f v r) from rfl]
    by_cases hk : k = f
    · rw [if_pos hk]
      by_cases h : g = k
      · have hb : (g == k) = true := beq_iff_eq.mpr h
        simp only [List.lookup, hb, if_pos (h.trans hk)]
      · have hb : (g == k) = false := beq_eq_false_iff_ne.mpr h
        simp only [List.lookup, hb, if_neg (fun e : g = f => h (e.trans hk.symm))]
    · rw [if_neg hk]
      by_cases h : g = k
      · have hb : (g == k) = true := beq_iff_eq.mpr h
        simp only [List.lookup, hb, if_neg (fun e : g = f => hk (h.symm.trans e))]
      · have hb : (g == k) = false := beq_eq_false_iff_ne.mpr h
        simp only [List.lookup, hb]
        exact ih
theorem keys_putF (f : Str) (v : V) : ∀ fs : List (Str × V), f ∈ (putF f v fs).map (·.1) ∧ ∀ g, g ∈ fs.map (·.1) → g ∈ (putF f v fs).map (·.1)
  | [] => ⟨by simp [putF], fun g h => by simp at h⟩
  | (k, x) :: r => by
    obtain ⟨i1, i2⟩ := keys_putF f v r
    rw [show putF f v ((k, x) :: r) = (if k = f then (k, v) :: r else (k, x) :: putF f v r) from rfl]
    by_cases hk : k = f
    · rw [if_pos hk]
      subst hk
      exact ⟨by simp, fun g h => by simpa using h⟩
    · rw [if_neg hk]
      refine ⟨?_, fun g h => ?_⟩
      · rw [List.map_cons]
        exact List.mem_cons_of_mem _ i1
      · rw [List.map_cons] at h ⊢
        rcases List.mem_cons.mp h with e | e
        · exact List.mem_cons.mpr (.inl e)
        · exact List.mem_cons_of_mem _ (i2 g e)
theorem length_putF (f : Str) (v : V) : ∀ fs : List (Str × V), (putF f v fs).length ≤ fs.length + 1
  | [] => by simp [putF]
  | (k, x) :: r => by
    have ih := length_putF f v r
    rw [show putF f v ((k, x) :: r) = (if k = f then (k, v) :: r else (k, x) :: putF f v r) from rfl]
    by_cases hk : k = f
    · rw [if_pos hk, List.length_cons, List.length_cons]; omega
    · rw [if_neg hk, List.length_cons, List.length_cons]; omega

theorem RelO.some_of {v : V} {o : Option Value} (r : RelO (some v) o) : ∃ u, o = some u ∧ RelV v u := by
  cases o with
  | none => exact (show False from r).elim
  | some u => exact ⟨u, rfl, r⟩
theorem RelO.none_of {o : Option Value} (r : RelO none o) : o = none := by
  cases o with
  | none => rfl
  | some u => exact (show False from r).elim
theorem handed_of {v : V} {u : Value} (r : RelV v u) : PySem.W.handedIn u = true := by
  cases v with
  | non => cases (show u = Value.none from r); rfl
  | bl b => cases (show u = Value.bool b from r); rfl
  | int i => obtain ⟨t, e⟩ := (show ∃ t, u = Value.int i t from r); cases e; rfl
  | str x => obtain ⟨t, e⟩ := (show ∃ t, u = Value.str x t from r); cases e; rfl
  | byt b => obtain ⟨t, e⟩ := (show ∃ t, u = Value.bytes b t from r); cases e; rfl
  | flt b => obtain ⟨t, e⟩ := (show ∃ t, u = Value.float b t from r); cases e; rfl
  | ref a => cases (show u = Value.ref a from r); rfl
  | ty n => cases (show u = Value.type n from r); rfl

section
variable {P : Program} {w : World} {H H' : Hp} {h h' : Heap} {a C dx : Addr} {fs fs' : List (Str × V)}
theorem ins_get (hok : HOk P w H h) (e : H a = some (.ins C dx fs)) : ∃ mA, ObjM h a dx C mA ∧ (∀ f, RelO (fs.lookup f) (mA f)) ∧ PySem.Within mA (fs.map (·.1)) ∧ fs.length ≤ 1000 ∧ H dx = some (.own a) := by
  obtain ⟨d, z, ne, ob, mA, n, r, q⟩ := (show ObjOk P w H h a (.ins C dx fs) from hok a _ e)
  exact ⟨mA, ⟨ob, n, ne⟩, r, q, z, d⟩
end

/-! ### what of the text a class must have -/
structure Cls (K : PySem.W.Frag) (C : Addr) : Prop where
  pg : PySem.W.plainGet K C Str.empty = true
  hd : PySem.W.hasDictIn K C = true
  po : PySem.W.plainOver K C = true
  sa : PySem.W.findIn K (.ref C) "__setattr__" = some (some (.builtin "object.__setattr__"))
theorem Cls.get {K : PySem.W.Frag} {C : Addr} (c : Cls K C) (f : Str) : PySem.W.plainGet K C f = true := c.pg
/-- no class of it has the name -/
def NoAttr (K : PySem.W.Frag) (C : Addr) (f : Str) : Prop := PySem.W.findIn K (.ref C) f = some none
theorem NoAttr.taker {K : PySem.W.Frag} {C : Addr} {f : Str} (n : NoAttr K C f) : PySem.W.takerIn K C f = some none := by
  unfold PySem.W.takerIn
  rw [show PySem.W.findIn K (.ref C) f = some none from n]
  rfl
/-- a constant of the class -/
structure Con (K : PySem.W.Frag) (C : Addr) (f : Str) (v : V) (u : Value) : Prop where
  at_ : PySem.W.findIn K (.ref C) f = some (some u)
  rel : RelV v u
  get : PySem.W.specialIn K u "__get__" = some none
  cp : PySem.W.copiedNames.contains f = false
/-- a method: a plain def of the class or of one above it -/
structure Meth (K : PySem.W.Frag) (C : Addr) (m : Str) (f : Addr) : Prop where
  at_ : PySem.W.findIn K (.ref C) m = some (some (.ref f))
  fn : PySem.W.isFn K (.ref f) = true
  kp : PySem.W.keepIn K (.ref f) = true

section
variable {X : Cx} {pins : List (Addr × Obj)} {σ : St} {H : Hp} {s : Shared} {a C dx : Addr} {fs : List (Str × V)} {f : Str} {v : V} {A : Around} {E : Value → Shared → Prop}

theorem getattr_ok {b : Bool} {Q : Value → Shared → Prop} (I : Inv X pins σ H s) (e : H a = some (.ins C dx fs)) (c : Cls X.K C) (n : NoAttr X.K C f) (l : fs.lookup f = some v)
    (h : ∀ u s', Inv X pins σ H s' → RelV v u → Q u s') : wpAny (model X.prog X.w) A (getAttr (.ref a) f b) Q E s := by
  obtain ⟨mA, O, r, _, _, _⟩ := ins_get I.hok e
  obtain ⟨u, hu, ru⟩ := RelO.some_of (v := v) (o := mA f) (by rw [← l]; exact r f)
  exact get_map I.kIn O (c.get f) c.hd n hu (handed_of ru) (h u _ (I.tok _) ru)

theorem getmeth_ok {m : Str} {g : Addr} {pl : Sem Bool} {Q : Value × List Value → Shared → Prop} (I : Inv X pins σ H s) (e : H a = some (.ins C dx fs)) (c : Cls X.K C) (k : Meth X.K C m g) (l : fs.lookup m = none)
    (h : Q (.ref g, [.ref a]) s) : wpAny (model X.prog X.w) A (getMethod (.ref a) m pl) Q E s := by
  obtain ⟨mA, O, r, _, _, _⟩ := ins_get I.hok e
  have hn : mA m = none := RelO.none_of (by rw [← l]; exact r m)
  exact get_meth I.kIn O (c.get m) k.at_ k.fn hn h

theorem setattr_ok {y : V} {u : Value} {Q : Unit → Shared → Prop} (I : Inv X pins σ H s) (e : H a = some (.ins C dx fs)) (c : Cls X.K C) (n : NoAttr X.K C f) (hl : fs.length < 1000) (ry : RelV y u)
    (h : ∀ s', Inv X pins σ (upd H a (.ins C dx (putF f y fs))) s' → Q () s') : wpAny (model X.prog X.w) A (setAttr (.ref a) f u) Q E s := by
  obtain ⟨mA, O, r, wi, _, ho⟩ := ins_get I.hok e
  have hz : (fs.map (·.1)).length ≤ sizeLine := by rw [List.length_map, sizeLine_eq]; omega
  refine set_map I.kIn O c.sa c.po n.taker c.hd wi hz fun h' O' sb => h _ ?_
  have hd : ∃ o, h'.get? dx = some o := let ⟨o, _, _, e', _⟩ := O'.ns; ⟨o, e'⟩
  refine I.write (x := a) (e := dx) (by rw [e]; exact True.intro) (.inr ho) (fun b q hb z => (sb.2 b hb).trans z) hd ?_
  refine ⟨by rw [upd_ne O.ne]; exact ho, ?_, O.ne, O'.obj, _, O'.ns, fun g => ?_, fun g hg => ?_⟩
  · have := length_putF f y fs; omega
  · show RelO ((putF f y fs).lookup g) (if g = f then some u else mA g)
    rw [lookup_putF]
    by_cases q : g = f
    · rw [if_pos q, if_pos q]; exact ry
    · rw [if_neg q, if_neg q]; exact r g
  · by_cases q : g = f
    · rw [q]; exact (keys_putF f y fs).1
    · refine (keys_putF f y fs).2 g (wi g fun z => hg ?_)
      show (if g = f then some u else mA g) = none
      rw [if_neg q]; exact z

/-- a new instance, tracked, without attributes -/
theorem Inv.made (I : Inv X pins σ H s) : Inv X pins σ (upd (upd H s.heap.objs.size (.own (s.heap.objs.size + 1))) (s.heap.objs.size + 1) (.ins C s.heap.objs.size []))
    { s with heap := (s.heap.push PySem.W.emptyDict).push (PySem.W.instObj C s.heap.objs.size) } := by
  have e1 : (s.heap.push PySem.W.emptyDict).get? s.heap.objs.size = some PySem.W.emptyDict := Heap.get?_push_size s.heap rfl
  have e2 : ((s.heap.push PySem.W.emptyDict).push (PySem.W.instObj C s.heap.objs.size)).get? (s.heap.objs.size + 1) = some (PySem.W.instObj C s.heap.objs.size) := by
    have := Heap.get?_push_size (s.heap.push PySem.W.emptyDict) (o := PySem.W.instObj C s.heap.objs.size) rfl
    rwa [Heap.size_push] at this
  have e3 : (s.heap.push PySem.W.emptyDict).Ns s.heap.objs.size (fun _ => none) := ⟨PySem.W.emptyDict, #[], _, e1, rfl, (fun e he => absurd he (by simp)), fun _ => rfl⟩
  have I1 := I.laid (a := s.heap.objs.size) (o := .own (s.heap.objs.size + 1)) (h' := s.heap.push PySem.W.emptyDict) (t' := s.toks) (fun b u q => Heap.get?_push_of_some _ q) (Nat.le_refl _) ⟨_, e1⟩
  refine I1.laid (a := s.heap.objs.size + 1) (o := .ins C s.heap.objs.size []) (t' := s.toks) (fun b u q => Heap.get?_push_of_some _ q) (Nat.le_of_eq (Heap.size_push _ _)) ?_
  have ne : s.heap.objs.size ≠ s.heap.objs.size + 1 := Nat.ne_of_lt (Nat.lt_succ_self _)
  refine ⟨by rw [upd_ne ne, upd_same], Nat.zero_le _, ne, e2, fun _ => none, (Heap.Ns1.of_empty e3).at fun o q => Heap.get?_push_of_some _ q, fun _ => True.intro, fun y hy => absurd rfl hy⟩

/-- e.f where nothing but the object is asked: through attributeBase (super) and the last hold -/
theorem attr_of {prog : Program} {w : World} {env : Env} {e : Expr} {f : Str} {pos : Pos} {s : Shared} {Q : Value → Shared → Prop} (hb : attributeBase e f env (eval e env) = eval e env)
    (h : wpAny (model prog w) A (eval e env) (fun o s₁ => wpAny (model prog w) A (getAttr o f true) Q E s₁) E s) : wpAny (model prog w) A (eval (.Attribute e f pos) env) Q E s :=
  Attribute_any_ h (by rw [arm_eval_Attribute, hb])
end

/-! ### readings and rules -/
/-- e.f, an attribute of the instance -/
def tFld (K : PySem.W.Frag) (ta : TE) (f : Str) : TE := fun σ H Q => ta σ H fun x H1 => ∃ a C dx fs v, x = .ref a ∧ H1 a = some (.ins C dx fs) ∧ Cls K C ∧ NoAttr K C f ∧ fs.lookup f = some v ∧ Q v H1
/-- e.f, a constant of the class -/
def tCon (K : PySem.W.Frag) (ta : TE) (f : Str) : TE := fun σ H Q => ta σ H fun x H1 => ∃ a C dx fs v u, x = .ref a ∧ H1 a = some (.ins C dx fs) ∧ Cls K C ∧ Con K C f v u ∧ fs.lookup f = none ∧ Q v H1
/-- e.f = value -/
def sFld (K : PySem.W.Frag) (ta tv : TE) (f : Str) : TS := fun D σ H => tv σ H fun y H1 => ta σ H1 fun x H2 => ∃ a C dx fs, x = .ref a ∧ H2 a = some (.ins C dx fs) ∧ Cls K C ∧ NoAttr K C f ∧ fs.length < 1000 ∧
  D.nx σ (upd H2 a (.ins C dx (putF f y fs)))
/-- an augmented operator on two values -/
def InOp (X : Cx) (op : Operator) (rd : V → V → Hp → VK → Prop) : Prop :=
  ∀ (pins : List (Addr × Obj)) (s : Shared) (σ : St) (H : Hp) (x y : V) (u v : Value) (Q : VK), Inv X pins σ H s → RelV x u → RelV y v → rd x y H Q → wpAny (model X.prog X.w) X.A (inplaceOp op u v) (EP X pins σ Q) X.xe s
/-- e.f op= value -/
def sFldAug (K : PySem.W.Frag) (ta tv : TE) (rd : V → V → Hp → VK → Prop) (f : Str) : TS := fun D σ H => ta σ H fun x H1 => ∃ a C dx fs v, x = .ref a ∧ H1 a = some (.ins C dx fs) ∧ Cls K C ∧ NoAttr K C f ∧ fs.lookup f = some v ∧
  tv σ H1 fun y H2 => rd v y H2 fun z H3 => ∃ dx' fs', H3 a = some (.ins C dx' fs') ∧ fs'.length < 1000 ∧ D.nx σ (upd H3 a (.ins C dx' (putF f z fs')))

section
variable {X : Cx} {o e value : Expr} {f : Str} {pos pos' tpos : Pos} {ta tv : TE}
theorem pe_fld (he : PE X e ta) (hb : attributeBase e f X.env (eval e X.env) = eval e X.env) : PE X (.Attribute e f pos) (tFld X.K ta f) := by
  intro pins s σ H Q I h
  refine attr_of hb (thn (he pins s σ H _ I h) fun u s1 ⟨x, H1, I1, rx, a, C, dx, fs, v, ex, ea, c, n, l, q⟩ => ?_)
  subst ex
  obtain rfl : u = Value.ref a := rx
  exact getattr_ok I1 ea c n l fun u' s2 I2 ru => ⟨v, H1, I2, ru, q⟩
theorem ps_fld (ha : PE X o ta) (hv : PE X value tv) (hs : swapsWith value (some (.Attribute o f pos')) pos.line X.env = pure false) : PS X (.Assign [.Attribute o f pos'] value pos) (sFld X.K ta tv f) := by
  intro pins s σ H D I h
  refine plainObj_wpAny_Assign_Attribute (thn (hv pins s σ H _ I h) fun u s1 ⟨y, H1, I1, ry, q⟩ => thn (ha pins s1 σ H1 _ I1 q) fun ov s2 ⟨x, H2, I2, rx, a, C, dx, fs, ex, ea, c, n, l, q2⟩ => ?_) hs
  subst ex
  obtain rfl : ov = Value.ref a := rx
  exact setattr_ok I2 ea c n l ry fun s3 I3 => ⟨σ, _, I3, q2⟩
def rAdd : V → V → Hp → VK → Prop := fun x y H Q => ∃ i j, x = .int i ∧ y = .int j ∧ Q (.int (i + j)) H
def rSub : V → V → Hp → VK → Prop := fun x y H Q => ∃ i j, x = .int i ∧ y = .int j ∧ Q (.int (i - j)) H
end

/-! ### isinstance -/
section
variable {X : Cx} {pins : List (Addr × Obj)} {σ : St} {H : Hp} {s : Shared} {A : Around} {E : Value → Shared → Prop} {Q : Value → Shared → Prop} {c : Value} {b : Bool}
/-- the type of a value, as the fragment's deciders take it; for an instance its class -/
inductive TyOf (K : PySem.W.Frag) (H : Hp) : V → Value → Prop where
  | non : TyOf K H .non (.type "NoneType")
  | bl (x : Bool) : TyOf K H (.bl x) (.type "bool")
  | int (i : Int) : TyOf K H (.int i) (.type "int")
  | str (x : Str) : TyOf K H (.str x) (.type "str")
  | flt (x : UInt64) : TyOf K H (.flt x) (.type "float")
  | lst {a : Addr} {xs : List V} (e : H a = some (.lst xs)) : TyOf K H (.ref a) (.type "list")
  | frz {a : Addr} {o : Obj} {xs : List V} (e : H a = some (.frz o (.lst xs))) : TyOf K H (.ref a) (.type "list")
  | tup {a : Addr} {xs : List V} (e : H a = some (.tup xs)) : TyOf K H (.ref a) (.type "tuple")
  | dK {a : Addr} {kvs : List (Key × V)} (e : H a = some (.dK kvs)) : TyOf K H (.ref a) (.type "dict")
  | dT {a : Addr} {kvs : List (List Key × V)} (e : H a = some (.dT kvs)) : TyOf K H (.ref a) (.type "dict")
  | ins {a C dx : Addr} {fs : List (Str × V)} (e : H a = some (.ins C dx fs)) (cl : Cls K C) (ha : PySem.W.findIn K (.ref C) "__class__" = some (some (.builtin "object.__class__")))
      (hn : PySem.W.specialIn K (.builtin "object.__class__") "__get__" = some (some (.builtin "getset_descriptor.__get__"))) (htk : PySem.W.takesIn K (.builtin "object.__class__") = some true)
      (hm : PySem.W.mroIn K C (.type "object") = some true) : TyOf K H (.ref a) (.ref C)
/-- isinstance(x, c) for one class c, a built-in or an own one: kitOne's answer -/
theorem isinst_ok {x : V} {u t : Value} (I : Inv X pins σ H s) (rx : RelV x u) (ty : TyOf X.K H x t) (e : PySem.W.kitOne X.K t c = some b) (h : ∀ tk, Q (.bool b) { s with toks := tk }) :
    wpAny (model X.prog X.w) A (call (.builtin "isinstance") [u, c]) Q E s := by
  cases ty with
  | non => cases (show u = Value.none from rx); exact PySem.W.kia_one PySem.W.kitx_none I.kIn True.intro e (fun z => nomatch z) h
  | bl y => cases (show u = Value.bool y from rx); exact PySem.W.kia_one PySem.W.kitx_bool I.kIn True.intro e (fun z => nomatch z) h
  | int i => obtain ⟨t, q⟩ := (show ∃ t, u = Value.int i t from rx); cases q; exact PySem.W.kia_one PySem.W.kitx_int I.kIn True.intro e (fun z => nomatch z) h
  | str y => obtain ⟨t, q⟩ := (show ∃ t, u = Value.str y t from rx); cases q; exact PySem.W.kia_one PySem.W.kitx_str I.kIn True.intro e (fun z => nomatch z) h
  | flt y => obtain ⟨t, q⟩ := (show ∃ t, u = Value.float y t from rx); cases q; exact PySem.W.kia_one PySem.W.kitx_float I.kIn True.intro e (fun z => nomatch z) h
  | @lst a xs ea =>
    cases (show u = Value.ref a from rx)
    obtain ⟨_, _, n, _, h1⟩ := (show ObjOk X.prog X.w H s.heap a (.lst xs) from I.hok a _ ea)
    exact PySem.W.kia_one PySem.W.kitx_list I.kIn ⟨_, h1, rfl⟩ e (fun z => nomatch z) h
  | @frz a ob xs ea =>
    cases (show u = Value.ref a from rx)
    obtain ⟨_, _, _, n, _, h1⟩ := (show ObjOk X.prog X.w H s.heap a (.frz ob (.lst xs)) from I.hok a _ ea)
    exact PySem.W.kia_one PySem.W.kitx_list I.kIn ⟨_, h1, rfl⟩ e (fun z => nomatch z) h
  | @tup a xs ea =>
    cases (show u = Value.ref a from rx)
    obtain ⟨_, _, _, p⟩ := (show ObjOk X.prog X.w H s.heap a (.tup xs) from I.hok a _ ea)
    obtain ⟨o, h1, h2, _⟩ := p
    exact PySem.W.kia_one PySem.W.kitx_tuple I.kIn ⟨o, h1, h2⟩ e (fun z => nomatch z) h
  | @dK a kvs ea =>
    cases (show u = Value.ref a from rx)
    obtain ⟨_, _, vs, _, p⟩ := (show ObjOk X.prog X.w H s.heap a (.dK kvs) from I.hok a _ ea)
    obtain ⟨o, es, ep, h1, h2, _⟩ := p
    exact PySem.W.kia_one PySem.W.kitx_dict I.kIn ⟨o, h1, h2.1⟩ e (fun z => nomatch z) h
  | @dT a kvs ea =>
    cases (show u = Value.ref a from rx)
    obtain ⟨_, _, xs, _, o, es, ep, h1, h2, _⟩ := (show ObjOk X.prog X.w H s.heap a (.dT kvs) from I.hok a _ ea)
    exact PySem.W.kia_one PySem.W.kitx_dict I.kIn ⟨o, h1, h2.1⟩ e (fun z => nomatch z) h
  | @ins a C dx fs ea cl ha hn htk hm =>
    cases (show u = Value.ref a from rx)
    obtain ⟨mA, O, _⟩ := ins_get I.hok ea
    obtain ⟨od, J, _⟩ := O.look
    exact PySem.W.kia_one (PySem.W.kitx_own (cl.get _) cl.hd ha hn htk hm) I.kIn J e (fun z => nomatch z) h
end
end L2

namespace L2
open PySem PySem.Spec PyProof.Rows

/-! ### room -/
structure Room (k : Nat) (A : Around) : Prop where
  hd : A.handled = none
  dp : A.depth + 3 * k + 5 < recursionLimit
  un : A.units + 16 * k + 200 < cLine
theorem Room.mono {j k : Nat} {A : Around} (r : Room k A) (h : j ≤ k) : Room j A := ⟨r.hd, by have := r.dp; omega, by have := r.un; omega⟩
theorem Room.deeper {k : Nat} {A : Around} (r : Room (k + 1) A) (env : Env) : Room k (A.deeper env) :=
  ⟨r.hd, by have := r.dp; show A.depth + 1 + 3 * k + 5 < _; omega, by have := r.un; show A.units + 3 + 16 * k + 200 < _; omega⟩
theorem Room.in1 {k : Nat} {A : Around} (r : Room (k + 1) A) : Room k A.in1 :=
  ⟨r.hd, by have := r.dp; show A.depth + 3 * k + 5 < _; omega, by have := r.un; show A.units + 1 + 16 * k + 200 < _; omega⟩
theorem make_depth {A : Around} {C : Addr} {us : List Value} {kw : List (Str × Value)} : (A.under (.builtin "type.__call__" ⟨.ref C :: us, kw⟩)).depth = A.depth + 1 := by
  first | rfl | simp [Around.under, Code.weight, Code.isCreation, Code.isGuard, Code.isCaller, Code.frames, Code.isFrame, guardIds]
theorem make_units {A : Around} {C : Addr} {us : List Value} {kw : List (Str × Value)} : (A.under (.builtin "type.__call__" ⟨.ref C :: us, kw⟩)).units = A.units + 1 := by
  first | rfl | simp [Around.under, Code.cUnits, Code.frames, Code.isFrame]
theorem Room.make {k : Nat} {A : Around} (r : Room (k + 1) A) (C : Addr) (us : List Value) (kw : List (Str × Value)) : Room k (A.under (.builtin "type.__call__" ⟨.ref C :: us, kw⟩)) :=
  ⟨r.hd, by have := r.dp; rw [make_depth]; omega, by have := r.un; rw [make_units]; omega⟩
theorem Room.depth {k : Nat} {A : Around} (r : Room k A) : A.depth < recursionLimit := by have := r.dp; omega
theorem Room.units {k : Nat} {A : Around} (r : Room k A) : A.units + 64 < cLine := by have := r.un; omega
/-! ### argument lists and displays -/
def tNil : TA := fun _ H Q => Q [] H
def tCons (ta : TE) (tr : TA) : TA := fun σ H Q => ta σ H fun x H1 => tr σ H1 fun xs H2 => Q (x :: xs) H2
section
variable {X : Cx} {e : Expr} {es : List Expr} {te : TE} {t : TA} {pos : Pos}
theorem pa_nil : PA X [] tNil := fun _ _ _ _ H Q I h => Calls.spliced_nil ⟨[], H, I, .nil, h⟩
theorem pa_cons (ha : PE X e te) (hr : PA X es t) (hs : starEach (e :: es) X.env = (false, eval e X.env) :: starEach es X.env := by rfl) : PA X (e :: es) (tCons te t) := by
  intro pos pins s σ H Q I h
  rw [hs]
  show wpAny _ _ (spliced ((false, eval e X.env) :: backTo pos (starEach es X.env))) _ _ s
  refine Calls.spliced_cons (thn (ha pins s σ H _ I h) fun u s1 ⟨x, H1, I1, r1, q1⟩ => ?_)
  exact thn (hr pos pins s1 σ H1 _ I1 q1) fun us s2 ⟨xs, H2, I2, r2, q2⟩ => ⟨x :: xs, H2, I2, .cons r1 r2, q2⟩

/-- a tuple, a list of written items -/
def tTup (t : TA) : TE := fun σ H Q => t σ H fun xs H1 => xs.length ≤ sizeLine ∧ ∀ p, H1 p = none → Q (.ref p) (upd H1 p (.tup xs))
def tLst (t : TA) : TE := fun σ H Q => t σ H fun xs H1 => xs.length ≤ sizeLine ∧ ∀ p, H1 p = none → Q (.ref p) (upd H1 p (.lst xs))
end

/-! ### what a def promises -/
/-- a def's promise: the bound arguments in the parameters' order, the heap, the wanted end, the wanted exception -/
abbrev Sp := List V → Hp → VK → XK → Prop
/-- how an exception lies behind a call (file 08 gives it): the callers' frames, abstract heap and state ahead of the call, the wish, the exception, the state -/
abbrev CXT := List Env → Hp → Shared → XK → Value → Shared → Prop

/-- the state at a call -/
structure Env0 (P : Program) (w : World) (K : PySem.W.Frag) (mg : Str → Option Value) (base : Heap) (A : Around) (outer : List Env) (s : Shared) (H : Hp) : Prop where
  frames : A.frames = some outer
  mod : Mod K mg base
  bs : ∀ b o, base.get? b = some o → s.heap.get? b = some o ∧ H b = none
  bsz : base.objs.size ≤ s.heap.objs.size
  funs : s.heap.FunFrames base outer
  frf : ∀ b ∈ frs outer, H b = none
  hok : HOk P w H s.heap
  bare : AllBare s.gens
/-- a call's end -/
def CE (outer : List Env) (P : Program) (w : World) (H : Hp) (s : Shared) (Q : VK) (u : Value) (s' : Shared) : Prop :=
  ∃ v H', s'.os = s.os ∧ AllBare s'.gens ∧ Un (frs outer) [] H H' s.heap s'.heap ∧ HOk P w H' s'.heap ∧ RelV v u ∧ Q v H'
def CR (CX : CXT) (outer : List Env) (P : Program) (w : World) (H : Hp) (s : Shared) (Q : VK) (E : XK) (r : Result) (s' : Shared) : Prop :=
  match r with
  | .ok (.ret u) => CE outer P w H s Q u s'
  | .ok _ => False
  | .error e => CX outer H s E e s'
structure FnOk (P : Program) (w : World) (K : PySem.W.Frag) (mg : Str → Option Value) (base : Heap) (CX : CXT) (k : Nat) (f : Addr) (fd : FuncData) (ps : List Str) (sp : Sp) : Prop where
  len : ∀ vs H Q E, sp vs H Q E → vs.length = ps.length
  run : ∀ (A : Around) (outer : List Env) (s : Shared) (H : Hp) (args : Args) (us : List Value) (vs : List V) (Q : VK) (E : XK), Room k A → Env0 P w K mg base A outer s H → BindsTo s fd args (ps.zip us) → Vals vs us → sp vs H Q E →
    codeAny (model P w) A (.call (.ref f) args) (CR CX outer P w H s Q E) s
theorem FnOk.mono {P : Program} {w : World} {K : PySem.W.Frag} {mg : Str → Option Value} {base : Heap} {CX : CXT} {j k : Nat} {f : Addr} {fd : FuncData} {ps : List Str} {sp : Sp} (F : FnOk P w K mg base CX j f fd ps sp) (h : j ≤ k) :
    FnOk P w K mg base CX k f fd ps sp := ⟨F.len, fun A outer s H args us vs Q E hr => F.run A outer s H args us vs Q E (hr.mono h)⟩
/-- a weaker promise -/
theorem FnOk.imp {P : Program} {w : World} {K : PySem.W.Frag} {mg : Str → Option Value} {base : Heap} {CX : CXT} {k : Nat} {f : Addr} {fd : FuncData} {ps : List Str} {sp sp' : Sp} (F : FnOk P w K mg base CX k f fd ps sp)
    (h : ∀ vs H Q E, sp' vs H Q E → sp vs H Q E) : FnOk P w K mg base CX k f fd ps sp' :=
  ⟨fun vs H Q E q => F.len vs H Q E (h _ _ _ _ q), fun A outer s H args us vs Q E hr he hb hv hs => F.run A outer s H args us vs Q E hr he hb hv (h _ _ _ _ hs)⟩

theorem Env0.make {P : Program} {w : World} {K : PySem.W.Frag} {mg : Str → Option Value} {base : Heap} {A : Around} {outer : List Env} {s : Shared} {H : Hp} (e : Env0 P w K mg base A outer s H) (C : Addr) (us : List Value) (kw : List (Str × Value)) :
    Env0 P w K mg base (A.under (.builtin "type.__call__" ⟨.ref C :: us, kw⟩)) outer s H := ⟨by first | exact e.frames | (simpa [Around.under, Code.envs, Code.isFrame, pushEnvs] using e.frames), e.mod, e.bs, e.bsz, e.funs, e.frf, e.hok, e.bare⟩
theorem Env0.in1 {P : Program} {w : World} {K : PySem.W.Frag} {mg : Str → Option Value} {base : Heap} {A : Around} {outer : List Env} {s : Shared} {H : Hp} (e : Env0 P w K mg base A outer s H) :
    Env0 P w K mg base A.in1 outer s H := ⟨e.frames, e.mod, e.bs, e.bsz, e.funs, e.frf, e.hok, e.bare⟩

section
variable {X : Cx} {pins : List (Addr × Obj)} {σ : St} {H : Hp} {s s' : Shared}
/-- from a body: what a callee wants -/
theorem Inv.env0 (I : Inv X pins σ H s) : Env0 X.prog X.w X.K X.mg X.base X.A X.stack s H :=
  ⟨I.ok.frames, I.ok.mod, I.bs, Nat.le_trans I.ok.bsz I.sz, I.stack, I.stkFree, I.hok, I.bare⟩
/-- behind a call -/
theorem Inv.after {Q : VK} {u : Value} (I : Inv X pins σ H s) (h : CE X.stack X.prog X.w H s Q u s') : EP X pins σ Q u s' := by
  obtain ⟨v, H', os, bare, un, hok, r, q⟩ := h
  obtain ⟨hh, g, d, t, os'⟩ := s'
  obtain rfl : os' = s.os := os
  exact ⟨v, H', I.call (h' := hh) (g' := g) (d' := d) (t' := t) (ch := []) un hok bare (fun b z => absurd z (by simp)), r, q⟩
end

/-! ### calls -/
/-- f(..): the written arguments, then the defaults dvs; E: what is wanted of an exception -/
def tCall (sp : Sp) (dvs : List V) (E : XK) (t : TA) : TE := fun σ H Q => t σ H fun vs H1 => sp (vs ++ dvs) H1 Q E
/-- o.m(..) of an instance of the class at C -/
def tMeth (C : Addr) (m : Str) (sp : Sp) (dvs : List V) (E : XK) (ta : TE) (t : TA) : TE := fun σ H Q => ta σ H fun x H1 => ∃ a dx fs, x = .ref a ∧ H1 a = some (.ins C dx fs) ∧ fs.lookup m = none ∧
  t σ H1 fun vs H2 => sp (x :: (vs ++ dvs)) H2 Q E
/-- C(..): a new instance and its dict, then __init__ -/
def tMake (C : Addr) (sp : Sp) (dvs : List V) (E : XK) (t : TA) : TE := fun σ H Q => t σ H fun vs H1 => ∀ x dx, H1 x = none → H1 dx = none → dx ≠ x →
  sp (.ref x :: (vs ++ dvs)) (upd (upd H1 dx (.own x)) x (.ins C dx [])) (fun v H2 => v = .non ∧ Q (.ref x) H2) E

/-- how the parameters are bound: us the positional arguments, kw the keywords' values by name, ds the defaults that fill up -/
def Binds (K : PySem.W.Frag) (fd : FuncData) (ps : List Str) (ds : List Value) : Prop :=
  ∀ (s : Shared) (us : List Value), K.In s.heap → (us ++ ds).length = ps.length → BindsTo s fd ⟨us, []⟩ (ps.zip (us ++ ds))
/-- every parameter is given -/
theorem Binds.all {K : PySem.W.Frag} {fd : FuncData} {ps : List Str} (h : ∀ us : List Value, us.length = ps.length → bindArgs fd ⟨us, []⟩ = pure (ps.zip us)) : Binds K fd ps [] := fun s us _ hl => by
  rw [List.append_nil] at hl ⊢
  exact .of_eq (h us hl)

/-- an exception of a callee reaches what this body wants of exceptions -/
def Passes (CX : CXT) (X : Cx) (E : XK) : Prop := ∀ (pins : List (Addr × Obj)) (σ : St) (H : Hp) (s : Shared) (e : Value) (s' : Shared), Inv X pins σ H s → CX X.stack H s E e s' → X.xe e s'

section
variable {X : Cx} {CX : CXT} {k : Nat} {f C : Addr} {fd : FuncData} {ps : List Str} {sp : Sp} {dvs : List V} {ds : List Value} {E : XK} {x m : Str} {p pos apos : Pos} {e o : Expr} {es : List Expr} {ta : TE} {t : TA}

/-- what a class must have to be made -/
structure Mk (K : PySem.W.Frag) (C f : Addr) : Prop where
  makes : PySem.W.makesIn K C = true
  init : PySem.W.findIn K (.ref C) "__init__" = some (some (.ref f))
  fn : PySem.W.isFn K (.ref f) = true
  kp : PySem.W.keepIn K (.ref C) = true

theorem run_make {pins : List (Addr × Obj)} {σ : St} {H : Hp} {s : Shared} {Q : VK} {us : List Value} {vs : List V} (M : Mk X.K C f) (F : FnOk X.prog X.w X.K X.mg X.base CX k f fd ps sp) (hr : Room (k + 1) X.A) (hb : Binds X.K fd ps ds) (hd : Vals dvs ds)
    (hx : Passes CX X E) (I : Inv X pins σ H s) (r : Vals vs us)
    (h : ∀ x dx, H x = none → H dx = none → dx ≠ x → sp (.ref x :: (vs ++ dvs)) (upd (upd H dx (.own x)) x (.ins C dx [])) (fun v H2 => v = .non ∧ Q (.ref x) H2) E) :
    wpAny (model X.prog X.w) X.A (call (.ref C) us) (EP X pins σ Q) X.xe s := by
  have hq := h (s.heap.objs.size + 1) s.heap.objs.size (I.hok.fresh (Nat.le_succ _)) (I.hok.fresh (Nat.le_refl _)) (Nat.ne_of_lt (Nat.lt_succ_self _))
  have I2 := Inv.made (C := C) I
  have r2 : Vals (V.ref (s.heap.objs.size + 1) :: (vs ++ dvs)) (Value.ref (s.heap.objs.size + 1) :: (us ++ ds)) := .cons rfl (r.append hd)
  have hl : (Value.ref (s.heap.objs.size + 1) :: us ++ ds).length = ps.length := by
    have e := r2.length
    rw [F.len _ _ _ _ hq] at e
    exact e.symm
  refine wpAny_call (make_map (f := f) I.kIn M.makes M.init (beq_iff_eq.mp M.fn) (codeAny_mono (F.run _ X.stack _ _ ⟨Value.ref (s.heap.objs.size + 1) :: us, []⟩ (Value.ref (s.heap.objs.size + 1) :: (us ++ ds)) _ _ E (hr.make C us [])
    (I2.env0.make C us []) (hb _ (Value.ref (s.heap.objs.size + 1) :: us) I2.kIn hl) r2 hq) fun r s' hq' => ?_))
  cases r with
  | error e => exact hx pins σ _ _ e s' I2 hq'
  | ok fl =>
    cases fl with
    | ret u =>
      obtain ⟨v, H', I3, rv, ev, q3⟩ := I2.after hq'
      subst ev
      exact ⟨rv, ⟨V.ref (s.heap.objs.size + 1), H', I3, rfl, q3⟩⟩
    | next => exact False.elim hq'
    | brk => exact False.elim hq'
    | cont => exact False.elim hq'
end

/-! ### keywords -/
/-- the values of the keywords, from the left -/
def PK (X : Cx) (kws : List Keyword) (t : TA) : Prop :=
  ∀ (pos : Pos) (pins : List (Addr × Obj)) (s : Shared) (σ : St) (H : Hp) (Q : List V → Hp → Prop), Inv X pins σ H s → t σ H Q → wpAny (model X.prog X.w) X.A (evalAll ((backToKw pos (keywordEach kws X.env)).map (·.2))) (AP X pins σ Q) X.xe s
section
variable {X : Cx} {CX : CXT} {k : Nat} {f C : Addr} {fd : FuncData} {ps ks : List Str} {sp : Sp} {E : XK} {x m : Str} {p pos apos kpos : Pos} {e o : Expr} {es : List Expr} {kws : List Keyword} {te ta : TE} {t tk : TA} {nm : Option Str}
/-- how a call with keywords binds: g puts the positional values us and the keywords' values ws (names ks) in the parameters' order, defaults among them -/
structure KBinds (K : PySem.W.Frag) (fd : FuncData) (ps ks : List Str) (g : List Value → List Value → List Value) (gV : List V → List V → List V) : Prop where
  to : ∀ (s : Shared) (us ws : List Value), K.In s.heap → (g us ws).length = ps.length → BindsTo s fd ⟨us, ks.zip ws⟩ (ps.zip (g us ws))
  rel : ∀ {vs : List V} {us : List Value} {zs : List V} {ws : List Value}, Vals vs us → Vals zs ws → Vals (gV vs zs) (g us ws)
def tCallK (sp : Sp) (gV : List V → List V → List V) (E : XK) (t tk : TA) : TE := fun σ H Q => t σ H fun vs H1 => tk σ H1 fun zs H2 => sp (gV vs zs) H2 Q E
variable {g : List Value → List Value → List Value} {gV : List V → List V → List V}
end

/-! ### a def's body keeps its promise -/
/-- names: the parameters first -/
structure FnScope (N P : List Str) (sc : Scope) : Prop where
  kind : sc.kind = .function
  co : sc.isCoroutine = false
  gen : sc.isGenerator = false
  nd : N.Nodup
  pre : N.take P.length = P
  par : ∀ x ∈ P, sc.names.lookup x = some .local ∨ sc.names.lookup x = some .cell
  nofree : ∀ y ∈ sc.names, y.2 ≠ .free

theorem bindL_out {kindOf : Str → Option NameKind} {x : Str} : ∀ {binds : List (Str × Value)} {m : Str → Option Value}, (∀ v, (x, v) ∉ binds) → bindL kindOf binds m x = m x
  | [], _, _ => rfl
  | (n, v) :: r, m, h => by
    unfold bindL
    rw [bindL_out fun w hw => h w (List.mem_cons_of_mem _ hw)]
    split
    · have : x ≠ n := by rintro rfl; exact h v List.mem_cons_self
      simp [this]
    · rfl
theorem bindC_out {kindOf : Str → Option NameKind} {x : Str} : ∀ {binds : List (Str × Value)} {m : Str → Option Value}, (∀ v, (x, v) ∉ binds) → bindC kindOf binds m x = m x
  | [], _, _ => rfl
  | (n, v) :: r, m, h => by
    unfold bindC
    rw [bindC_out fun w hw => h w (List.mem_cons_of_mem _ hw)]
    split
    · rfl
    · have : x ≠ n := by rintro rfl; exact h v List.mem_cons_self
      simp [this]
theorem bindL_get {kindOf : Str → Option NameKind} {x : Str} {v : Value} : ∀ {P : List Str} {vs : List Value} {i : Nat} {m : Str → Option Value}, P.Nodup → P[i]? = some x → vs[i]? = some v → kindOf x = some .local →
    bindL kindOf (P.zip vs) m x = some v
  | [], _, _, _, _, h, _, _ => by simp at h
  | _ :: _, [], _, _, _, _, h, _ => by simp at h
  | p :: P, w :: vs, 0, m, nd, h1, h2, hk => by
    simp at h1 h2; subst h1; subst h2
    show bindL kindOf ((p, w) :: P.zip vs) m p = _
    unfold bindL
    rw [bindL_out fun v hv => (List.nodup_cons.mp nd).1 (List.of_mem_zip hv).1, if_pos hk]
    simp
  | p :: P, w :: vs, i + 1, m, nd, h1, h2, hk => by
    show bindL kindOf ((p, w) :: P.zip vs) m x = _
    unfold bindL
    exact bindL_get (i := i) (List.nodup_cons.mp nd).2 (by simpa using h1) (by simpa using h2) hk
theorem bindC_get {kindOf : Str → Option NameKind} {x : Str} {v : Value} : ∀ {P : List Str} {vs : List Value} {i : Nat} {m : Str → Option Value}, P.Nodup → P[i]? = some x → vs[i]? = some v → kindOf x ≠ some .local →
    bindC kindOf (P.zip vs) m x = some v
  | [], _, _, _, _, h, _, _ => by simp at h
  | _ :: _, [], _, _, _, _, h, _ => by simp at h
  | p :: P, w :: vs, 0, m, nd, h1, h2, hk => by
    simp at h1 h2; subst h1; subst h2
    show bindC kindOf ((p, w) :: P.zip vs) m p = _
    unfold bindC
    rw [bindC_out fun v hv => (List.nodup_cons.mp nd).1 (List.of_mem_zip hv).1, if_neg hk]
    simp
  | p :: P, w :: vs, i + 1, m, nd, h1, h2, hk => by
    show bindC kindOf ((p, w) :: P.zip vs) m x = _
    unfold bindC
    exact bindC_get (i := i) (List.nodup_cons.mp nd).2 (by simpa using h1) (by simpa using h2) hk

/-- the names' values at the entry -/
def start (N : List Str) (vs : List V) : St := vs.map some ++ List.replicate (N.length - vs.length) none

/-- the context of a def's body, at its entry; an exception leaves the frame, then lies as CX says -/
def cxOf (CX : CXT) (P : Program) (w : World) (K : PySem.W.Frag) (mg : Str → Option Value) (base : Heap) (N : List Str) (qual : Str) (scope : Scope) (f : Addr) (cd : Value) (A : Around) (outer : List Env) (s : Shared) (H : Hp) (E : XK) : Cx where
  prog := P
  w := w
  K := K
  mg := mg
  base := base
  A := A.deeper (envOfC qual scope s.heap.objs.size f cd)
  N := N
  s₀ := s
  H₀ := H
  env := envOfC qual scope s.heap.objs.size f cd
  outer := outer
  stack := envOfC qual scope s.heap.objs.size f cd :: outer
  ex := []
  calm := true
  fn := fun _ => true
  pn := []
  xe := fun e s' => wpAny (model P w) (A.deeper (envOfC qual scope s.heap.objs.size f cd)) (leaving (envOfC qual scope s.heap.objs.size f cd) e) (fun _ s'' => CX outer H s E e s'') (fun e' s'' => CX outer H s E e' s'') s'

theorem cell_has {sc : Scope} {n : Nat} {x : Str} (h : sc.names.lookup x = some .cell) : ∃ c, (cellsFrom n sc.names []).lookup x = some c := by
  have q := PySem.W.cellsFrom_some sc.names n [] (.inl h)
  exact Option.isSome_iff_exists.mp q

theorem inv_start {CX : CXT} {P : Program} {w : World} {K : PySem.W.Frag} {mg : Str → Option Value} {base : Heap} {N ps : List Str} {qual : Str} {scope : Scope} {f : Addr} {cd : Value} {A : Around} {outer : List Env} {s s1 : Shared} {H : Hp} {E : XK} {us : List Value} {vs : List V}
    (S : FnScope N ps scope) (hd : A.handled = none) (e0 : Env0 P w K mg base A outer s H) (hl : vs.length = ps.length) (r : Vals vs us)
    (x : InCallC s s.heap.objs.size (bindL (envOfC qual scope s.heap.objs.size f cd).kindOf (ps.zip us) fun _ => none) (cellsFrom (s.heap.objs.size + 1) scope.names []) (bindC (envOfC qual scope s.heap.objs.size f cd).kindOf (ps.zip us) fun _ => none) s1) :
    Inv (cxOf CX P w K mg base N qual scope f cd A outer s H E) [] (start N vs) H s1 := by
  have hpl : ps.length ≤ N.length := by have := congrArg List.length S.pre; rw [List.length_take] at this; omega
  obtain ⟨h1, tk, rfl, hk⟩ := x.done
  have noA : ∀ b : Addr, b ∉ (cxOf CX P w K mg base N qual scope f cd A outer s H E).ex := fun b z => absurd (show b ∈ ([] : List Addr) from z) (by simp)
  refine ⟨⟨e0.mod, S.kind, rfl, rfl, Nat.le_refl _, fun y z c h1 h2 => ?_, fun y hy => ?_, fun y c _ h => ?_, fun _ => hd, Around.frames_deeper e0.frames, .inr ⟨rfl, rfl⟩, fun b z => absurd z (noA b), e0.bs, e0.bsz, fun b _ _ => noA b, fun b z => absurd z (noA b), e0.funs, e0.frf⟩,
    rfl, e0.bare, Un.kept hk, ⟨_, x.toInCall.ns, fun i y v h1 h2 h3 => ?_⟩, fun y c h => ⟨_, x.cell y c h⟩, e0.hok.fresh (Nat.le_refl _), fun y c h => ?_, fun p hp => absurd (show p ∈ ([] : List (Addr × Obj)) from hp) (by simp), e0.hok.kept hk, ?_⟩
  · exact name_of_addr x.apart (PySem.mem_of_lookup h1) (PySem.mem_of_lookup h2)
  · have hy : scope.names.lookup y = some .cell ∨ scope.names.lookup y = some .free := hy
    rcases hy with hy | hy
    · exact cell_has hy
    · exact absurd rfl (S.nofree _ (PySem.mem_of_lookup hy))
  · exact Nat.le_of_lt (x.above y c (PySem.mem_of_lookup h))
  · have hi : i < vs.length := by
      unfold start at h2
      by_cases hi : i < vs.length
      · exact hi
      · rw [List.getElem?_append_right (by simpa using hi)] at h2
        rw [List.getElem?_replicate] at h2
        split at h2 <;> cases h2
    have ha : vs[i]? = some v := by
      unfold start at h2
      rw [List.getElem?_append_left (by simpa using hi), List.getElem?_map] at h2
      cases e : vs[i]? with
      | none => rw [e] at h2; cases h2
      | some a => rw [e] at h2; cases h2; rfl
    obtain ⟨u, hu, rv⟩ := r.get ha
    have hp : ps[i]? = some y := by
      rw [← S.pre, List.getElem?_take_of_lt (by omega)]; exact h1
    have ndP : ps.Nodup := by rw [← S.pre]; exact S.nd.sublist (List.take_sublist _ _)
    refine ⟨u, rv, ?_⟩
    rcases S.par y (List.mem_of_getElem? hp) with k | k
    · exact .inl ⟨k, bindL_get ndP hp hu k⟩
    · obtain ⟨c, e⟩ := cell_has (n := s.heap.objs.size + 1) k
      refine .inr ⟨.inl k, c, e, ?_⟩
      have q := x.cell y c e
      rw [bindC_get ndP hp hu (by show scope.names.lookup y ≠ _; rw [k]; decide)] at q
      exact q
  · exact e0.hok.fresh (Nat.le_of_lt (x.above y c (PySem.mem_of_lookup h)))
  · unfold start
    show _ = N.length
    rw [List.length_append, List.length_map, List.length_replicate]
    omega

/-- THE RULE: a def (or a method) of the text, by its body. The body's reading t is chosen for each entry; it is run at the parameters' values -/
theorem fn_of {CX : CXT} {P : Program} {w : World} {K : PySem.W.Frag} {mg : Str → Option Value} {base : Heap} {k : Nat} {f : Addr} {name qual : Str} {params : Arguments} {body : List Stmt} {scope : Scope} {dV kV doc pm cdv ct oc : Value} {an od : Option Addr}
    {osl : Array (Option Value)} {N ps : List Str} {sp : Sp} (lk : K.lookup f = some ⟨oc, od, .func (PySem.W.fnOf name qual params body scope dV kV doc pm an cdv ct), osl⟩) (hcd : PySem.W.codeIn K cdv qual = true) (S : FnScope N ps scope)
    (len : ∀ vs H Q E, sp vs H Q E → vs.length = ps.length)
    (hbody : ∀ (A : Around) (outer : List Env) (s : Shared) (H : Hp) (vs : List V) (Q : VK) (E : XK), Room k (A.deeper (envOfC qual scope s.heap.objs.size f cdv)) → sp vs H Q E →
      ∃ t, PSs (cxOf CX P w K mg base N qual scope f cdv A outer s H E) body t ∧ t { nx := fun _ H' => Q .non H', rt := Q } (start N vs) H) :
    FnOk P w K mg base CX (k + 1) f (PySem.W.fnOf name qual params body scope dV kV doc pm an cdv ct) ps sp := by
  refine ⟨len, fun A outer s H args us vs Q E hr e0 hb r hsp => ?_⟩
  have hl := len _ _ _ _ hsp
  have KX : K.In s.heap := e0.mod.kin.keeps fun b o e => (e0.bs b o e).1
  have lim : s.heap.NoLimit := e0.mod.nolimit.keeps fun b o e => (e0.bs b o e).1
  have hkind : ∀ y ∈ ps.zip us, scope.names.lookup y.1 = some .local ∨ (scope.names.lookup y.1 = some .cell ∧ ((cellsFrom (s.heap.objs.size + 1) scope.names []).lookup y.1).isSome = true) := fun ⟨n, v⟩ hy => by
    rcases S.par n (List.of_mem_zip hy).1 with q | q
    · exact .inl q
    · exact .inr ⟨q, PySem.W.cellsFrom_some _ _ _ (.inl q)⟩
  refine codeAny_call_function hr.depth (KX _ _ lk) rfl S.co S.gen rfl (PySem.W.codeRec_of KX hcd) (hb _ _ _ _ ?_)
  refine wpAny_newFunctionEnv_cells S.kind hkind fun env he s1 x => ?_
  subst he
  refine ⟨lim.keeps x.toInCall.keep, codeAny_func ?_⟩
  obtain ⟨t, ht, hq⟩ := hbody A outer s H vs Q E (hr.deeper _) hsp
  have I : Inv (cxOf CX P w K mg base N qual scope f cdv A outer s H E) [] (start N vs) H s1 := inv_start S hr.hd e0 hl r x
  refine wpAny_mono (ht [] s1 (start N vs) H _ I hq) (fun fl s' hs => ?_) fun e s' hs => hs
  have fin : ∀ {σ' : St} {H' : Hp} {v : V} {u : Value}, Inv (cxOf CX P w K mg base N qual scope f cdv A outer s H E) [] σ' H' s' → RelV v u → Q v H' → CE outer P w H s Q u s' :=
    fun {σ' H' v u} J rv q => ⟨v, H', J.os, J.bare, J.base, J.hok, rv, q⟩
  cases fl with
  | ret u =>
    obtain ⟨v, σ', H', J, rv, q⟩ := hs
    exact fin J rv q
  | next =>
    obtain ⟨σ', H', J, q⟩ := hs
    exact fin (v := V.non) (u := Value.none) J rfl q
  | brk =>
    obtain ⟨_, _, _, q⟩ := hs
    exact False.elim q
  | cont =>
    obtain ⟨_, _, _, q⟩ := hs
    exact False.elim q
end L2

namespace L2
open PySem PySem.Spec PyProof.Rows
section
variable {X : Cx} {x : Str} {p pos : Pos} {e : Expr} {es : List Expr} {t : TA} {id T : String} {r : List V → Hp → VK → Prop}

def tCB (r : List V → Hp → VK → Prop) (t : TA) : TE := fun σ H Q => t σ H fun vs H1 => r vs H1 Q
/-- f(e, ..), f a built-in function -/
theorem pe_callB (hc : CallR X (.builtin id) r) (hg : Gl X x) (hm : X.mg x = none) (hv : bootBuiltins x = some (.builtin id)) (ha : PA X (e :: es) t) (hn : x ≠ "__name__" := by decide) (hdb : (x == ("__debug__" : Str)) = false := by decide)
    (he : starEach (e :: es) X.env = (false, eval e X.env) :: starEach es X.env := by rfl) (hpl : (backTo pos (starEach es X.env)).any (·.1) = false := by rfl) : PE X (.Call (.Name x p) (e :: es) [] pos) (tCB r t) := by
  intro pins s σ H Q I h
  refine wpAny_Call_Name_kw (ld_blt I hg hm hv ?_ hn hdb)
  exact PyProof.Rows.callWith_builtin1 (thn (ha pos pins s σ H _ I h) fun us s1 ⟨vs, H1, I1, r1, q1⟩ => hc pins s1 σ H1 vs us Q I1 r1 q1) he hpl
/-- T(e, ..), T a built-in type -/
theorem pe_callTy (hc : CallR X (.type T) r) (hg : Gl X x) (hm : X.mg x = none) (hv : bootBuiltins x = some (.type T)) (ha : PA X (e :: es) t) (hn : x ≠ "__name__" := by decide) (hdb : (x == ("__debug__" : Str)) = false := by decide)
    (he : starEach (e :: es) X.env = (false, eval e X.env) :: starEach es X.env := by rfl) (hpl : (backTo pos (starEach es X.env)).any (·.1) = false := by rfl) : PE X (.Call (.Name x p) (e :: es) [] pos) (tCB r t) := by
  intro pins s σ H Q I h
  refine wpAny_Call_Name_kw (ld_blt I hg hm hv ?_ hn hdb)
  exact PyProof.Rows.callWith_type1 (thn (ha pos pins s σ H _ I h) fun us s1 ⟨vs, H1, I1, r1, q1⟩ => hc pins s1 σ H1 vs us Q I1 r1 q1) he hpl
end
end L2

namespace L2
open PySem PySem.Spec PyProof.Rows

/-! ### lists of pairs as tables -/
section
variable {κ : Type} [DecidableEq κ]
def valV (kvs : List (κ × V)) (k : κ) : Option V := (kvs.find? fun kv => decide (kv.1 = k)).map (·.2)
/-- in its place, or at the end -/
def putK (kvs : List (κ × V)) (k : κ) (v : V) : List (κ × V) :=
  if (kvs.any fun kv => decide (kv.1 = k)) = true then kvs.map (fun kv => if kv.1 = k then (kv.1, v) else kv) else kvs ++ [(k, v)]
def dropK (kvs : List (κ × V)) (k : κ) : List (κ × V) := kvs.filter fun kv => decide (kv.1 ≠ k)

theorem valV_pos {p : κ × V} {r : List (κ × V)} {k : κ} (e : p.1 = k) : valV (p :: r) k = some p.2 := by simp [valV, List.find?_cons, e]
theorem valV_neg {p : κ × V} {r : List (κ × V)} {k : κ} (e : ¬ p.1 = k) : valV (p :: r) k = valV r k := by simp [valV, List.find?_cons, e]
theorem valV_any (k : κ) : ∀ kvs : List (κ × V), (kvs.any fun kv => decide (kv.1 = k)) = (valV kvs k).isSome
  | [] => rfl
  | p :: r => by
    rw [List.any_cons]
    by_cases e : p.1 = k
    · simp only [valV_pos e, decide_eq_true e, Bool.true_or, Option.isSome_some]
    · rw [valV_neg e, decide_eq_false e, Bool.false_or]; exact valV_any k r
theorem RelO.isSome_eq {o : Option V} {u : Option Value} (r : RelO o u) : o.isSome = u.isSome := by
  cases o with
  | none => cases u with
    | none => rfl
    | some _ => exact (show False from r).elim
  | some _ => cases u with
    | none => exact (show False from r).elim
    | some _ => rfl
theorem RelO.getD {o : Option V} {u : Option Value} {d : V} {d' : Value} (r : RelO o u) (rd : RelV d d') : RelV (o.getD d) (u.getD d') := by
  cases o with
  | none => cases u with
    | none => exact rd
    | some _ => exact (show False from r).elim
  | some _ => cases u with
    | none => exact (show False from r).elim
    | some _ => exact r

/-- raw tables of the same keys -/
theorem KV.val {kvs : List (κ × V)} {vs : List (κ × Value)} (r : KV kvs vs) (k : κ) : RelO (valV kvs k) (valueAt vs k) := by
  unfold KV at r
  induction r with
  | nil => exact True.intro
  | @cons p q ps qs h t ih =>
    obtain ⟨h1, h2⟩ := h
    by_cases e : p.1 = k
    · have e' : q.1 = k := h1.symm.trans e
      have b : valueAt (q :: qs) k = some q.2 := by simp [valueAt, List.find?_cons, e']
      rw [valV_pos e, b]; exact h2
    · have e' : ¬ q.1 = k := fun z => e (h1.trans z)
      have b : valueAt (q :: qs) k = valueAt qs k := by simp [valueAt, List.find?_cons, e']
      rw [valV_neg e, b]; exact ih
theorem KV.any {kvs : List (κ × V)} {vs : List (κ × Value)} (r : KV kvs vs) (k : κ) : (kvs.any fun kv => decide (kv.1 = k)) = vs.any fun kv => decide (kv.1 = k) := by
  unfold KV at r
  induction r with
  | nil => rfl
  | cons h t ih => rw [List.any_cons, List.any_cons, ih, h.1]
theorem KV.repl {kvs : List (κ × V)} {vs : List (κ × Value)} (r : KV kvs vs) (k : κ) {y : V} {u : Value} (ry : RelV y u) :
    KV (kvs.map fun kv => if kv.1 = k then (kv.1, y) else kv) (vs.map fun kv => if kv.1 = k then (kv.1, u) else kv) := by
  unfold KV at r ⊢
  induction r with
  | nil => exact .nil
  | @cons p q ps qs h t ih =>
    rw [List.map_cons, List.map_cons]
    refine .cons ?_ ih
    obtain ⟨h1, h2⟩ := h
    by_cases e : p.1 = k
    · rw [if_pos e, if_pos (h1.symm.trans e)]; exact ⟨h1, ry⟩
    · rw [if_neg e, if_neg (fun z => e (h1.trans z))]; exact ⟨h1, h2⟩
theorem KV.put {kvs : List (κ × V)} {vs : List (κ × Value)} (r : KV kvs vs) (k : κ) {y : V} {u : Value} (ry : RelV y u) : KV (putK kvs k y) (stored vs k u) := by
  unfold putK stored
  rw [r.any k]
  by_cases e : (vs.any fun kv => decide (kv.1 = k)) = true
  · rw [if_pos e, if_pos e]; exact r.repl k ry
  · rw [if_neg e, if_neg e]; exact Paired.snoc r ⟨rfl, ry⟩
theorem KV.drop {kvs : List (κ × V)} {vs : List (κ × Value)} (r : KV kvs vs) (k : κ) : KV (dropK kvs k) (without vs k) := by
  unfold KV at r ⊢
  unfold dropK without
  induction r with
  | nil => exact .nil
  | @cons p q ps qs h t ih =>
    obtain ⟨h1, h2⟩ := h
    rw [List.filter_cons, List.filter_cons]
    by_cases e : p.1 = k
    · have a : ¬ decide (p.1 ≠ k) = true := by simp [e]
      have b : ¬ decide (q.1 ≠ k) = true := by simp [h1.symm.trans e]
      rw [if_neg a, if_neg b]; exact ih
    · have e' : ¬ q.1 = k := fun z => e (h1.trans z)
      have a : decide (p.1 ≠ k) = true := by simp [e]
      have b : decide (q.1 ≠ k) = true := by simp [e']
      rw [if_pos a, if_pos b]; exact .cons ⟨h1, h2⟩ ih
theorem KV.keys {kvs : List (κ × V)} {vs : List (κ × Value)} (r : KV kvs vs) : kvs.map (·.1) = vs.map (·.1) := by
  unfold KV at r
  induction r with
  | nil => rfl
  | cons h t ih => rw [List.map_cons, List.map_cons, ih, h.1]
theorem KV.length {kvs : List (κ × V)} {vs : List (κ × Value)} (r : KV kvs vs) : kvs.length = vs.length := Paired.length r
end


/-! ### a tracked dict, its keys ints and texts or tuples of these -/
/-- raw entries of a dict with tuple keys -/
abbrev KT (H : Hp) : List (List Key × V) → List (List Key × Addr × Value) → Prop := Paired fun p q => p.1 = q.1 ∧ H q.2.1 = some (.tup (p.1.map kV)) ∧ RelV p.2 q.2.2
theorem KT.val {H : Hp} {kvs : List (List Key × V)} {xs : List (List Key × Addr × Value)} (r : KT H kvs xs) (k : List Key) : RelO (valV kvs k) ((atKey xs k).map (·.2)) := by
  induction r with
  | nil => exact True.intro
  | @cons p q ps qs h t ih =>
    obtain ⟨h1, _, h2⟩ := h
    by_cases e : p.1 = k
    · have e' : q.1 = k := h1.symm.trans e
      have b : atKey (q :: qs) k = some q.2 := by simp [atKey, List.find?_cons, e']
      rw [valV_pos e, b]; exact h2
    · have e' : ¬ q.1 = k := fun z => e (h1.trans z)
      have b : atKey (q :: qs) k = atKey qs k := by simp [atKey, List.find?_cons, e']
      rw [valV_neg e, b]; exact ih
theorem KT.repl {H : Hp} {kvs : List (List Key × V)} {xs : List (List Key × Addr × Value)} (r : KT H kvs xs) (k : List Key) {y : V} {u : Value} (ry : RelV y u) :
    KT H (kvs.map fun kv => if kv.1 = k then (kv.1, y) else kv) (xs.map (putAt k u)) := by
  induction r with
  | nil => exact .nil
  | @cons p q ps qs h t ih =>
    rw [List.map_cons, List.map_cons]
    refine .cons ?_ ih
    obtain ⟨h1, h2, h3⟩ := h
    unfold putAt
    by_cases e : p.1 = k
    · rw [if_pos e, if_pos (h1.symm.trans e)]; exact ⟨h1, h2, ry⟩
    · rw [if_neg e, if_neg (fun z => e (h1.trans z))]; exact ⟨h1, h2, h3⟩
theorem KT.put {H : Hp} {kvs : List (List Key × V)} {xs : List (List Key × Addr × Value)} (r : KT H kvs xs) (k : List Key) {b : Addr} {y : V} {u : Value} (hb : H b = some (.tup (k.map kV))) (ry : RelV y u) :
    KT H (putK kvs k y) (storedH xs k b u) := by
  have e : (kvs.any fun kv => decide (kv.1 = k)) = (atKey xs k).isSome := by
    rw [valV_any, (r.val k).isSome_eq, Option.isSome_map]
  unfold putK storedH
  rw [e]
  by_cases q : (atKey xs k).isSome = true
  · rw [if_pos q, if_pos q]; exact r.repl k ry
  · rw [if_neg q, if_neg q]; exact Paired.snoc r ⟨rfl, hb, ry⟩
theorem KT.keeps {H H' : Hp} {kvs : List (List Key × V)} {xs : List (List Key × Addr × Value)} (r : KT H kvs xs) (ht : ∀ b ys, H b = some (.tup ys) → H' b = some (.tup ys)) : KT H' kvs xs :=
  Paired.mapP r fun _ _ z => ⟨z.1, ht _ _ z.2.1, z.2.2⟩

section
variable {P : Program} {w : World} {H : Hp} {h : Heap} {a : Addr}
end

/-- what the dict at a holds at the key y -/
def DGet (H : Hp) (a : Addr) (y : V) (r : Option V) : Prop :=
  (∃ kvs k, Rd H a (.dK kvs) ∧ y = kV k ∧ r = valV kvs k) ∨ ∃ kvs k b, Rd H a (.dT kvs) ∧ y = .ref b ∧ H b = some (.tup (k.map kV)) ∧ r = valV kvs k
/-- the heap behind a[y] = v -/
def DPut (H : Hp) (a : Addr) (y v : V) (H' : Hp) : Prop :=
  (∃ kvs k, H a = some (.dK kvs) ∧ y = kV k ∧ kvs.length < sizeLine ∧ H' = upd H a (.dK (putK kvs k v))) ∨
  ∃ kvs k b, H a = some (.dT kvs) ∧ y = .ref b ∧ H b = some (.tup (k.map kV)) ∧ kvs.length < sizeLine ∧ H' = upd H a (.dT (putK kvs k v))
theorem DGet.k {H : Hp} {a : Addr} {kvs : List (Key × V)} {k : Key} (e : H a = some (.dK kvs)) : DGet H a (kV k) (valV kvs k) := .inl ⟨kvs, k, .inl e, rfl, rfl⟩
theorem DGet.t {H : Hp} {a b : Addr} {kvs : List (List Key × V)} {k : List Key} (e : H a = some (.dT kvs)) (eb : H b = some (.tup (k.map kV))) : DGet H a (.ref b) (valV kvs k) := .inr ⟨kvs, k, b, .inl e, rfl, eb, rfl⟩
theorem DPut.k {H : Hp} {a : Addr} {kvs : List (Key × V)} {k : Key} {v : V} (e : H a = some (.dK kvs)) (hl : kvs.length < sizeLine) : DPut H a (kV k) v (upd H a (.dK (putK kvs k v))) := .inl ⟨kvs, k, e, rfl, hl, rfl⟩
theorem DPut.t {H : Hp} {a b : Addr} {kvs : List (List Key × V)} {k : List Key} {v : V} (e : H a = some (.dT kvs)) (eb : H b = some (.tup (k.map kV))) (hl : kvs.length < sizeLine) :
    DPut H a (.ref b) v (upd H a (.dT (putK kvs k v))) := .inr ⟨kvs, k, b, e, rfl, eb, hl, rfl⟩


section
variable {X : Cx} {pins : List (Addr × Obj)} {σ : St} {H : Hp} {s : Shared} {a : Addr} {y v : V} {u r : Value} {o : Option V} {A : Around} {E : Value → Shared → Prop}

theorem Inv.big (I : Inv X pins σ H s) : sysModules < s.heap.objs.size := by
  have h : mainGlobals < s.heap.objs.size := (I.mod.glob.keeps I.bk).lt
  exact Nat.lt_trans (by decide) h

end

section
variable {X : Cx} {pins : List (Addr × Obj)} {σ : St} {H : Hp} {s : Shared} {a : Addr} {kvs : List (Key × V)} {k : Key} {u : Value} {A : Around} {E : Value → Shared → Prop}
end


/-! ### readings and rules -/
/-- the element of a subscription, not a slice -/
def NoSl (i : Expr) : Prop := ∀ ov iv, subscripted i false ov iv = operate [ov, iv] (getItem ov iv)
/-- d[y] -/
def tDGet (td ty : TE) : TE := fun σ H Q => td σ H fun x H1 => ty σ H1 fun y H2 => ∃ a v, x = .ref a ∧ DGet H2 a y (some v) ∧ Q v H2
/-- y in d, y not in d -/
def tDIn (ty td : TE) : TE := fun σ H Q => ty σ H fun y H1 => td σ H1 fun x H2 => ∃ a o, x = .ref a ∧ DGet H2 a y o ∧ Q (.bl o.isSome) H2
def tDNotIn (ty td : TE) : TE := fun σ H Q => ty σ H fun y H1 => td σ H1 fun x H2 => ∃ a o, x = .ref a ∧ DGet H2 a y o ∧ Q (.bl (!o.isSome)) H2
/-- d[y] = v -/
def sDPut (td ty tv : TE) : TS := fun D σ H => tv σ H fun v H1 => td σ H1 fun x H2 => ty σ H2 fun y H3 => ∃ a H4, x = .ref a ∧ DPut H3 a y v H4 ∧ D.nx σ H4
/-- d[y] op= v -/
def sDAug (td ty tv : TE) (rd : V → V → Hp → VK → Prop) : TS := fun D σ H => td σ H fun x H1 => ty σ H1 fun y H2 => ∃ a v, x = .ref a ∧ DGet H2 a y (some v) ∧
  tv σ H2 fun y2 H3 => rd v y2 H3 fun z H4 => ∃ H5, DPut H4 a y z H5 ∧ D.nx σ H5
/-- del d[y] -/
def sDDel (td ty : TE) : TS := fun D σ H => td σ H fun x H1 => ty σ H1 fun y H2 => ∃ a kvs k, x = .ref a ∧ H2 a = some (.dK kvs) ∧ y = kV k ∧ (valV kvs k).isSome = true ∧ D.nx σ (upd H2 a (.dK (dropK kvs k)))

section
variable {X : Cx} {o i e value : Expr} {pos pos' tpos : Pos} {td ty tv : TE}
end


/-! ### displays -/
/-- {}, to be a dict of the kind that is wanted -/
def tDNewK : TE := fun _ H Q => ∀ p, H p = none → Q (.ref p) (upd H p (.dK []))
def tDNewT : TE := fun _ H Q => ∀ p, H p = none → Q (.ref p) (upd H p (.dT []))
section
variable {X : Cx} {pos : Pos}
end

/-- the pairs of a display, from the left -/
def tPairs : List (TE × TE) → St → Hp → (List (V × V) → Hp → Prop) → Prop
  | [], _, H, Q => Q [] H
  | (tk, tv) :: r, σ, H, Q => tk σ H fun x H1 => tv σ H1 fun y H2 => tPairs r σ H2 fun ps H3 => Q ((x, y) :: ps) H3
abbrev VV : List (V × V) → List (Value × Value) → Prop := Paired fun p q => RelV p.1 q.1 ∧ RelV p.2 q.2
def PPs (X : Cx) (pos : Pos) (keys : List (Option Expr)) (values : List Expr) (trs : List (TE × TE)) : Prop :=
  ∀ (pins : List (Addr × Obj)) (s : Shared) (σ : St) (H : Hp) (Q : List (V × V) → Hp → Prop), Inv X pins σ H s → tPairs trs σ H Q →
    wpAny (model X.prog X.w) X.A (evalPairs (pairTrees keys values X.env pos)) (fun vs s' => ∃ ps H', Inv X pins σ H' s' ∧ VV ps vs ∧ Q ps H') X.xe s
def mergeK (kvs more : List (Key × V)) : List (Key × V) := more.foldl (fun acc kv => putK acc kv.1 kv.2) kvs
/-- {k: v, ..} with keys ints and texts; the new dict stands empty while the pairs are made -/
def tDisp (trs : List (TE × TE)) : TE := fun σ H Q => ∀ p, H p = none → tPairs trs σ (upd H p (.dK [])) fun ps H2 => H2 p = some (.dK []) ∧ ∃ kvs : List (Key × V), ps = kvs.map (fun kv => (kV kv.1, kv.2)) ∧ kvs.length ≤ 15 ∧ Q (.ref p) (upd H2 p (.dK (mergeK [] kvs)))
/-! ### methods -/
/-- a method call o.m(e) of a built-in, with one argument: what must be seen of the text -/
structure M1 (X : Cx) (o : Expr) (m : Str) (apos : Pos) (e : Expr) (cpos : Pos) : Prop where
  base : attributeBase o m X.env (eval o X.env) = eval o X.env
  few : ((backTo cpos (starEach [e] X.env)).all (fun x => !x.1) && (backToKw cpos (keywordEach [] X.env)).all (fun x => x.1.isSome)
    && decide (([e] : List Expr).length + ([] : List Keyword).length + (if ([] : List Keyword).isEmpty then 0 else 1) < 30)) = true
  line : (apos.endLine == cpos.line) = true
  trees : backTo cpos (starEach [e] X.env) = [(false, eval e X.env)]
structure M2 (X : Cx) (o : Expr) (m : Str) (apos : Pos) (e f : Expr) (cpos : Pos) : Prop where
  base : attributeBase o m X.env (eval o X.env) = eval o X.env
  few : ((backTo cpos (starEach [e, f] X.env)).all (fun x => !x.1) && (backToKw cpos (keywordEach [] X.env)).all (fun x => x.1.isSome)
    && decide (([e, f] : List Expr).length + ([] : List Keyword).length + (if ([] : List Keyword).isEmpty then 0 else 1) < 30)) = true
  line : (apos.endLine == cpos.line) = true
  trees : backTo cpos (starEach [e, f] X.env) = [(false, eval e X.env), (false, eval f X.env)]

/-- a is a dict, whatever its keys -/
def IsD (H : Hp) (a : Addr) : Prop := (∃ kvs, Rd H a (.dK kvs)) ∨ ∃ kvs, Rd H a (.dT kvs)
section
variable {X : Cx} {pins : List (Addr × Obj)} {σ : St} {H : Hp} {s : Shared} {a : Addr} {y d : V} {u r : Value} {o : Option V} {A : Around} {E : Value → Shared → Prop}
end

def tDGet1 (td ty : TE) : TE := fun σ H Q => td σ H fun x H1 => ∃ a, x = .ref a ∧ IsD H1 a ∧ ty σ H1 fun y H2 => ∃ o, DGet H2 a y o ∧ Q (o.getD .non) H2
def tDGet2 (td ty tx : TE) : TE := fun σ H Q => td σ H fun x H1 => ∃ a, x = .ref a ∧ IsD H1 a ∧ ty σ H1 fun y H2 => tx σ H2 fun z H3 => ∃ o, DGet H3 a y o ∧ Q (o.getD z) H3
/-- d.pop(k): there; d.pop(k, x): there or not -/
def tDPop1 (td ty : TE) : TE := fun σ H Q => td σ H fun x H1 => ∃ a, x = .ref a ∧ IsD H1 a ∧ ty σ H1 fun y H2 => ∃ kvs k v, H2 a = some (.dK kvs) ∧ y = kV k ∧ valV kvs k = some v ∧ Q v (upd H2 a (.dK (dropK kvs k)))
def tDPop2 (td ty tx : TE) : TE := fun σ H Q => td σ H fun x H1 => ∃ a, x = .ref a ∧ IsD H1 a ∧ ty σ H1 fun y H2 => tx σ H2 fun z H3 => ∃ kvs k, H3 a = some (.dK kvs) ∧ y = kV k ∧
  (∀ v, valV kvs k = some v → Q v (upd H3 a (.dK (dropK kvs k)))) ∧ (valV kvs k = none → Q z H3)
section
variable {X : Cx} {o e f : Expr} {apos cpos : Pos} {td ty tx : TE}
end

/-! ### dict(d): a copy -/
section
variable {X : Cx} {pins : List (Addr × Obj)} {σ : St} {H : Hp} {s : Shared} {a : Addr} {kvs : List (Key × V)} {A : Around} {E : Value → Shared → Prop}
end


section
variable {X : Cx} {pins : List (Addr × Obj)} {σ : St} {H : Hp} {s : Shared} {a : Addr} {y : V} {u : Value} {A : Around} {E : Value → Shared → Prop}
end
end L2

namespace HT
open PySem PyProof.Rows

/-- t < u of tuples of ints -/
def lexLt : List Int → List Int → Bool
  | [], [] => false
  | [], _ :: _ => true
  | _ :: _, [] => false
  | x :: xs, y :: ys => if x = y then lexLt xs ys else decide (x < y)
section
open PySem.SeqAt
open PySem.AutoSeq1 (wpAny_loadPart')
open PySem.MeetsSeq PySem.MeetsSeq2 PySem.MeetsSeq3

end

section
variable {prog : Program} {w : World} {A : Around} {E : Value → Shared → Prop} {s : Shared}

/-- t + u, t not empty -/
theorem cat_tup {t b : Addr} {vs ws : List Value} {Q : Value → Shared → Prop} (ht : IsTup s.heap t vs.toArray) (hb : IsTup s.heap b ws.toArray) (hv : vs ≠ [])
    (h1 : ws = [] → Q (.ref t) s) (h2 : ws ≠ [] → Q (.ref s.heap.objs.size) { s with heap := s.heap.push { cls := .type "tuple", data := .seq (vs ++ ws).toArray } })
    (hsz : vs.length + ws.length ≤ sizeLine) : wpAny (model prog w) A (binaryOp .Add (.ref t) (.ref b)) Q E s := by
  obtain ⟨⟨cls, dd, data, sl⟩, ho, hc, n, hd⟩ := id ht
  obtain ⟨⟨cls2, dd2, data2, sl2⟩, ho2, hc2, n2, hd2⟩ := id hb
  simp only at hc hd hc2 hd2
  subst hc hd hc2 hd2
  have e : vs.toArray ++ ws.toArray = (vs ++ ws).toArray := by simp
  by_cases hw : ws = []
  · exact concat_meets ⟨_, ho, rfl⟩ ⟨_, ho2, rfl⟩ noFill_tuple_add seq_tuple_add PySem.F.slot_tuple_add PySem.F.entry_tuple_add (PySem.F.args_tuple_add_2 _ _)
      (tuple_addW1 t b vs.toArray ws.toArray n n2 dd dd2 sl sl2 (by simpa using hv) (by simp [hw])) ⟨ho, ho2, h1 hw⟩
  · refine concat_meets ⟨_, ho, rfl⟩ ⟨_, ho2, rfl⟩ noFill_tuple_add seq_tuple_add PySem.F.slot_tuple_add PySem.F.entry_tuple_add (PySem.F.args_tuple_add_2 _ _)
      (tuple_addW2 t b vs.toArray ws.toArray n n2 dd dd2 sl sl2 (by simpa using hv) (by simpa using hw) (by rw [List.size_toArray, List.size_toArray]; exact hsz)) ⟨ho, ho2, ?_⟩
    rw [e]
    exact h2 hw

/-! ### t[a:b], not the whole -/
/-- a slice's bound as a place among n (d where it is left out) -/
def sIx (n d : Nat) : Option Int → Nat
  | none => d
  | some v => if v < 0 then (v + (n : Int)).toNat else min v.toNat n
theorem sIx_none (n d : Nat) : sIx n d none = d := rfl
theorem sIx_nat (n d k : Nat) : sIx n d (some (k : Int)) = min k n := by
  show (if (k : Int) < 0 then ((k : Int) + (n : Int)).toNat else min (k : Int).toNat n) = min k n
  rw [if_neg (by omega), Int.toNat_natCast]
theorem sIx_le (n d : Nat) (hd : d ≤ n) (o : Option Int) : sIx n d o ≤ n := by
  cases o with
  | none => exact hd
  | some v =>
    show (if v < 0 then (v + (n : Int)).toNat else min v.toNat n) ≤ n
    by_cases hv : v < 0
    · rw [if_pos hv]; omega
    · rw [if_neg hv]; exact Nat.min_le_right _ _
theorem clip_eq (v : Int) (n d : Nat) : (if v < 0 then max (v + (n : Int)) 0 else min v (n : Int)) = ((sIx n d (some v) : Nat) : Int) := by
  show (if v < 0 then max (v + (n : Int)) 0 else min v (n : Int)) = (((if v < 0 then (v + (n : Int)).toNat else min v.toNat n) : Nat) : Int)
  by_cases hv : v < 0
  · simp only [if_pos hv]; omega
  · simp only [if_neg hv]; omega
theorem adjust_gen (lo hi : Option Int) (n : Nat) : Builtin.Slice.sliceAdjust lo hi 1 (n : Int) = (((sIx n 0 lo : Nat) : Int), ((sIx n n hi : Nat) : Int)) := by
  have h1 : ¬ ((1 : Int) < 0) := by omega
  unfold Builtin.Slice.sliceAdjust
  simp only [h1, if_false]
  refine Prod.ext ?_ ?_
  · cases lo with
    | none => rfl
    | some v => exact clip_eq v n 0
  · cases hi with
    | none => rfl
    | some v => exact clip_eq v n n
theorem places_gen (i j : Nat) : Builtin.Slice.slicePlaces (i : Int) (j : Int) 1 = j - i := by
  unfold Builtin.Slice.slicePlaces
  have h1 : (1 : Int) > 0 := by omega
  simp only [h1, if_true, Int.ediv_one]
  split <;> omega
theorem slicePart_ {v : Value} {o : Option Int} {Q : Option Int → Shared → Prop} (p : IsPart v o) (h : Q o s) : wpAny (model prog w) A (Builtin.Slice.slicePartIndex v) Q E s := by
  cases p with
  | none => exact slicePart_none h
  | int i t => exact slicePart_int h
theorem sliceApplied_gen {sl : Addr} {vl vu : Value} {lo hi : Option Int} {n : Nat} {Q : Int × Int × Nat → Shared → Prop} (hs : s.heap.IsSliceOf sl vl vu .none) (pl : IsPart vl lo) (pu : IsPart vu hi)
    (h : Q (((sIx n 0 lo : Nat) : Int), 1, sIx n n hi - sIx n 0 lo) s) : wpAny (model prog w) A (Builtin.Slice.sliceApplied (.ref sl) (pure (n : Int))) Q E s := by
  obtain ⟨os, hos, hcs, hds⟩ := id hs
  unfold Builtin.Slice.sliceApplied Builtin.Slice.sliceFields
  refine wpAny_bind (wpAny_bind (wpAny_field hos hds (x := vl) rfl (wpAny_bind (wpAny_field hos hds (x := vu) rfl (wpAny_bind (wpAny_field hos hds (x := .none) rfl (wpAny_pure ?_)))))))
  refine wpAny_bind (slicePart_none ?_)
  show wpAny _ _ (if ((1 : Int) == 0) = true then _ else _) _ _ s
  rw [if_neg (by decide)]
  refine wpAny_bind (slicePart_ pl (wpAny_bind (slicePart_ pu (wpAny_bind (wpAny_pure ?_)))))
  show wpAny _ _ (match Builtin.Slice.sliceAdjust lo hi 1 (n : Int) with | (lo, hi) => pure (lo, (1 : Int), Builtin.Slice.slicePlaces lo hi 1)) _ _ s
  rw [adjust_gen lo hi n]
  show wpAny _ _ (pure (((sIx n 0 lo : Nat) : Int), (1 : Int), Builtin.Slice.slicePlaces ((sIx n 0 lo : Nat) : Int) ((sIx n n hi : Nat) : Int) 1)) _ _ s
  rw [places_gen]
  exact wpAny_pure h
theorem pick_gen (xs : Array Value) (i k : Nat) : ((List.range k).filterMap fun (m : Nat) => xs[((i : Int) + (m : Int) * 1).toNat]?).toArray = ((xs.toList.drop i).take k).toArray := by
  have e : (fun (m : Nat) => xs[((i : Int) + (m : Int) * 1).toNat]?) = fun m => xs[i + m]? := by
    funext m
    have : ((i : Int) + (m : Int) * 1).toNat = i + m := by omega
    rw [this]
  rw [e]
  have := pick_run xs i k
  rw [List.filterMap_map] at this
  have e2 : ((fun x => xs[x]?) ∘ fun x => i + x) = fun m => xs[i + m]? := rfl
  rw [e2] at this
  rw [this]

theorem getItem_tuple_cut {t sl : Addr} {items : Array Value} {vl vu : Value} {lo hi : Option Int} {Q : Value → Shared → Prop} (ht : IsTup s.heap t items) (hs : s.heap.IsSliceOf sl vl vu .none) (pl : IsPart vl lo) (pu : IsPart vu hi)
    (hw : ¬ (sIx items.size 0 lo = 0 ∧ sIx items.size items.size hi = items.size))
    (h : Q (.ref s.heap.objs.size) { s with heap := s.heap.push { cls := .type "tuple", data := .seq ((items.toList.drop (sIx items.size 0 lo)).take (sIx items.size items.size hi - sIx items.size 0 lo)).toArray } })
    (hsz : items.size ≤ sizeLine) : wpAny (model prog w) A (getItem (.ref t) (.ref sl)) Q E s := by
  have htake : sizeOk (.seq ((items.toList.drop (sIx items.size 0 lo)).take (sIx items.size items.size hi - sIx items.size 0 lo)).toArray) := by
    show ((items.toList.drop (sIx items.size 0 lo)).take (sIx items.size items.size hi - sIx items.size 0 lo)).toArray.size ≤ sizeLine
    rw [List.size_toArray, List.length_take, List.length_drop, Array.length_toList]
    omega
  have hj : sIx items.size items.size hi ≤ items.size := sIx_le _ _ (Nat.le_refl _) hi
  obtain ⟨os, hos, hcs, hds⟩ := id hs
  have hTs : s.TypeIs (.ref sl) "slice" := ⟨os, hos, hcs⟩
  unfold getItem
  try with_reducible refine wpAny_holding ?_
  first | refine wpAny_bind (wpAny_pure ?_) | skip
  refine wpAny_bind (wpAny_sequenceKey ht.typeIs (by decide) ?_)
  refine wpAny_bind (wpAny_callSpecial?_slot (name := Str.ofString "__getitem__") ht.typeIs PyProof.Rows.slot_tuple_getitem
    (wpAny_call_entry PyProof.Rows.slot_tuple_getitem ht.typeIs entry_tuple_getitem ?_ (args_tuple_getitem _ _)))
  show wpAny _ _ (Builtin.Tuple.tupleItemsOf (.ref t) >>= _) _ _ s
  refine wpAny_bind (tupleItemsOf_ ht ?_)
  refine wpAny_bind (wpAny_typeOf hTs ?_)
  rw [if_pos (by decide)]
  refine wpAny_bind (sliceApplied_gen hs pl pu ?_)
  have hno : ¬ ((((sIx items.size 0 lo : Nat) : Int) == 0 && (1 : Int) == 1 && (sIx items.size items.size hi - sIx items.size 0 lo) == items.size) = true) := by
    intro q
    rw [Bool.and_eq_true, Bool.and_eq_true] at q
    have q1 : ((sIx items.size 0 lo : Nat) : Int) = 0 := eq_of_beq q.1.1
    have q2 : sIx items.size items.size hi - sIx items.size 0 lo = items.size := eq_of_beq q.2
    exact hw ⟨by omega, by omega⟩
  show wpAny _ _ (if (((sIx items.size 0 lo : Nat) : Int) == 0 && (1 : Int) == 1 && (sIx items.size items.size hi - sIx items.size 0 lo) == items.size) = true then _ else _) _ _ s
  rw [if_neg hno, pick_gen]
  first
    | exact wpAny_bind (m := Builtin.Tuple.tupleExact _) (wpAny_newObj_type (wpAny_pure ⟨_, rfl, wpAny_pure h⟩) htake)
    | exact wpAny_bind (m := Builtin.Tuple.tupleExact _) (wpAny_newObj_type (wpAny_bind (wpAny_pure (wpAny_pure ⟨_, rfl, wpAny_pure h⟩))) htake)
    | exact wpAny_bind (wpAny_bind (m := Builtin.Tuple.tupleExact _) (wpAny_newObj_type (wpAny_pure (wpAny_pure ⟨_, rfl, wpAny_pure h⟩)) htake))
    | exact wpAny_bind (wpAny_bind (m := Builtin.Tuple.tupleExact _) (wpAny_newObj_type (wpAny_pure ⟨_, rfl, wpAny_pure h⟩) htake))
end
end HT

namespace L2
open PySem PySem.Spec PyProof.Rows

/-! ### the parts of a slice -/
abbrev TO := St → Hp → (Option Int → Hp → Prop) → Prop
/-- a slice's part (left out, or an int) -/
def PO (X : Cx) (e : Option Expr) (t : TO) : Prop :=
  ∀ (pins : List (Addr × Obj)) (s : Shared) (σ : St) (H : Hp) (Q : Option Int → Hp → Prop), Inv X pins σ H s → t σ H Q →
    wpAny (model X.prog X.w) X.A (evalPart e X.env) (fun u s' => ∃ o H', Inv X pins σ H' s' ∧ IsPart u o ∧ Q o H') X.xe s
def tNoPart : TO := fun _ H Q => Q none H
def tPart (t : TE) : TO := fun σ H Q => t σ H fun x H1 => ∃ i, x = .int i ∧ Q (some i) H1

section
variable {X : Cx} {e : Expr} {te : TE} {lo hi : Option Expr} {tl th : TO} {pos p2 : Pos}

theorem po_none : PO X none tNoPart := by
  intro pins s σ H Q I h
  rw [evalPart_none]
  exact wpAny_pure ⟨none, H, I, .none, h⟩
theorem po_some (h : PE X e te) : PO X (some e) (tPart te) := by
  intro pins s σ H Q I hw
  rw [evalPart_some]
  refine thn (h pins s σ H _ I hw) fun u s1 ⟨x, H1, I1, r1, q1⟩ => ?_
  obtain ⟨i, rfl, q⟩ := q1
  obtain ⟨t, rfl⟩ := r1
  exact ⟨some i, H1, I1, .int i t, q⟩

/-- what a slice of a value is, by values: the slice object stands at sl -/
def SlR (X : Cx) (r : V → Option Int → Option Int → Hp → VK → Prop) : Prop :=
  ∀ (pins : List (Addr × Obj)) (s : Shared) (σ : St) (H : Hp) (x : V) (v vl vu : Value) (lo hi : Option Int) (sl : Addr) (Q : VK), Inv X pins σ H s → RelV x v → s.heap.IsSliceOf sl vl vu .none → IsPart vl lo → IsPart vu hi → r x lo hi H Q →
    ∃ T id, typeLookup (.type T) "__getitem__" = pure (some (.builtin id)) ∧ s.TypeIs v T ∧ wpAny (model X.prog X.w) X.A (getItem v (.ref sl)) (EP X pins σ Q) X.xe s
theorem SlR.or {r r' : V → Option Int → Option Int → Hp → VK → Prop} (h : SlR X r) (h' : SlR X r') : SlR X (fun x lo hi H Q => r x lo hi H Q ∨ r' x lo hi H Q) := by
  intro pins s σ H x v vl vu lo hi sl Q I rx hs pl pu q
  rcases q with q | q
  · exact h pins s σ H x v vl vu lo hi sl Q I rx hs pl pu q
  · exact h' pins s σ H x v vl vu lo hi sl Q I rx hs pl pu q
def tSl (r : V → Option Int → Option Int → Hp → VK → Prop) (te : TE) (tl th : TO) : TE := fun σ H Q => te σ H fun x H1 => tl σ H1 fun l H2 => th σ H2 fun u H3 => r x l u H3 Q
/-- a[lo:hi], any a -/
theorem pe_slice {r : V → Option Int → Option Int → Hp → VK → Prop} (hr : SlR X r) (he : PE X e te) (hl : PO X lo tl) (hu : PO X hi th) : PE X (.Subscript e (.Slice lo hi none p2) pos) (tSl r te tl th) := by
  intro pins s σ H Q I h
  refine Subscript_ (thn (he pins s σ H _ I h) fun v s1 ⟨x, H1, I1, r1, q1⟩ => ?_)
  refine wpAny_Slice (thn (hl pins s1 σ H1 _ I1 q1) fun vl s2 ⟨l, H2, I2, pl, q2⟩ => thn (hu pins s2 σ H2 _ I2 q2) fun vu s3 ⟨u, H3, I3, pu, q3⟩ => ?_)
  rw [evalPart_none]
  refine wpAny_pure ?_
  have I4 : Inv X pins σ H3 { s3 with heap := s3.heap.push { cls := .type "slice", data := .fields #[vl, vu, .none] } } := I3.kept (t' := s3.toks) fun b ob q => Heap.get?_push_of_some _ q
  obtain ⟨T, id, hT, ht, hg⟩ := hr pins { s3 with heap := s3.heap.push { cls := .type "slice", data := .fields #[vl, vu, .none] } } σ H3 x v vl vu l u s3.heap.objs.size Q I4 r1 (Heap.IsSliceOf.new ..) pl pu q3
  show wpAny (model X.prog X.w) X.A (subscriptTail e (.Slice lo hi none p2) v (.ref s3.heap.objs.size)) (EP X pins σ Q) X.xe { s3 with heap := s3.heap.push { cls := .type "slice", data := .fields #[vl, vu, .none] } }
  exact tail_any (ops := [.ref s3.heap.objs.size, v]) ht hT hg (by with_unfolding_all rfl)

/-- the items of xs[lo:hi] -/
def cutV (xs : List V) (lo hi : Option Int) : List V := (xs.drop (HT.sIx xs.length 0 lo)).take (HT.sIx xs.length xs.length hi - HT.sIx xs.length 0 lo)
theorem cutV_length (xs : List V) (lo hi : Option Int) : (cutV xs lo hi).length ≤ xs.length := by
  unfold cutV
  rw [List.length_take, List.length_drop]
  omega
/-- t[lo:hi], not the whole of it (the whole would be t itself) -/
def rSlT (K : PySem.W.Frag) : V → Option Int → Option Int → Hp → VK → Prop := fun x lo hi H Q => ∃ a xs, x = .ref a ∧ SqT K H a xs ∧
  ¬ (HT.sIx xs.length 0 lo = 0 ∧ HT.sIx xs.length xs.length hi = xs.length) ∧ ∀ p, H p = none → Q (.ref p) (upd H p (.tup (cutV xs lo hi)))
theorem sl_tup : SlR X (rSlT X.K) := by
  intro pins s σ H x v vl vu lo hi sl Q I rx hs pl pu h
  obtain ⟨a, xs, rfl, hx, hw, q⟩ := h
  cases rx
  obtain ⟨its, r, ht, hz⟩ := I.tuple hx
  have hlen : its.toArray.size = xs.length := by rw [List.size_toArray]; exact r.length.symm
  refine ⟨"tuple", _, PyProof.Rows.slot_tuple_getitem.lookup, ht.typeIs, ?_⟩
  refine HT.getItem_tuple_cut ht hs pl pu (by rw [hlen]; exact hw) ?_ (by rw [hlen]; exact hz)
  rw [hlen]
  refine ⟨.ref s.heap.objs.size, _, I.laid (t' := s.toks) (o := .tup (cutV xs lo hi)) (fun b ob q => Heap.get?_push_of_some _ q) (Nat.le_refl _) ?_, rfl, q _ (I.hok.fresh (Nat.le_refl _))⟩
  exact ⟨Nat.le_trans (cutV_length xs lo hi) hz, _, (r.drop (HT.sIx xs.length 0 lo)).take (HT.sIx xs.length xs.length hi - HT.sIx xs.length 0 lo), IsTup.new _ _⟩

/-! ### t < u, t + u -/
def rLtT (K : PySem.W.Frag) : R2 := fun x y H Q => ∃ a b ns ms, x = .ref a ∧ y = .ref b ∧ SqT K H a (ns.map V.int) ∧ SqT K H b (ms.map V.int) ∧ Q (.bl (HT.lexLt ns ms)) H
/-- t + u, t not empty: u empty gives t itself -/
def rCatT (K : PySem.W.Frag) : R2 := fun x y H Q => ∃ a b xs ys, x = .ref a ∧ y = .ref b ∧ SqT K H a xs ∧ SqT K H b ys ∧ xs ≠ [] ∧ xs.length + ys.length ≤ sizeLine ∧
  (ys = [] → Q (.ref a) H) ∧ (ys ≠ [] → ∀ p, H p = none → Q (.ref p) (upd H p (.tup (xs ++ ys))))
theorem Vals.nil_iff {xs : List V} {us : List Value} (r : Vals xs us) : us = [] ↔ xs = [] := by
  cases r with
  | nil => simp
  | cons _ _ => simp
theorem op_catT : OpR X (binaryOp .Add) (rCatT X.K) := by
  intro pins s σ H x y v u Q I rx ry h
  obtain ⟨a, b, xs, ys, rfl, rfl, ha, hb, hx, hz, q1, q2⟩ := h
  cases rx
  cases ry
  obtain ⟨its, r1, p1, _⟩ := I.tuple ha
  obtain ⟨its2, r2, p2, _⟩ := I.tuple hb
  refine HT.cat_tup p1 p2 (fun z => hx (r1.nil_iff.mp z)) (fun z => ⟨.ref a, H, I, rfl, q1 (r2.nil_iff.mp z)⟩) (fun z => ?_) (by rw [← r1.length, ← r2.length]; exact hz)
  refine ⟨.ref s.heap.objs.size, _, I.laid (t' := s.toks) (o := .tup (xs ++ ys)) (fun b ob q => Heap.get?_push_of_some _ q) (Nat.le_refl _) ?_, rfl, q2 (fun w => z (r2.nil_iff.mpr w)) _ (I.hok.fresh (Nat.le_refl _))⟩
  exact ⟨by rw [List.length_append]; exact hz, _, r1.append r2, IsTup.new _ _⟩
end
end L2

namespace L2
open PySem PySem.Spec PyProof.Rows

/-! ### places -/
/-- the place that an index of any sign means -/
def ixN (n : Nat) (i : Int) : Option Nat := if 0 ≤ i then (if i < n then some i.toNat else none) else if -(n : Int) ≤ i then some (i + n).toNat else none
def atI {α : Type} (xs : List α) (i : Int) : Option α := (ixN xs.length i).bind fun j => xs[j]?
theorem ixN_seq {n : Nat} {i : Int} {j : Nat} (h : ixN n i = some j) : seqIndex? i n = some j ∧ j < n ∧ -(n : Int) ≤ i ∧ i < n := by
  unfold ixN at h
  by_cases h0 : 0 ≤ i
  · rw [if_pos h0] at h
    by_cases h1 : i < n
    · rw [if_pos h1] at h
      have e : i.toNat = j := Option.some.inj h
      exact ⟨by rw [seqIndex_of h0 h1, e], by omega, by omega, h1⟩
    · rw [if_neg h1] at h; cases h
  · rw [if_neg h0] at h
    by_cases h1 : -(n : Int) ≤ i
    · rw [if_pos h1] at h
      have e : (i + n).toNat = j := Option.some.inj h
      exact ⟨by rw [seqIndex_neg (by omega) h1, e], by omega, h1, by omega⟩
    · rw [if_neg h1] at h; cases h
theorem atI_get {α : Type} {xs : List α} {i : Int} {v : α} (h : atI xs i = some v) : ∃ j, seqIndex? i xs.length = some j ∧ xs[j]? = some v ∧ j < xs.length ∧ -(xs.length : Int) ≤ i ∧ i < xs.length := by
  unfold atI at h
  cases e : ixN xs.length i with
  | none => rw [e] at h; cases h
  | some j =>
    rw [e] at h
    obtain ⟨h1, h2, h3, h4⟩ := ixN_seq e
    exact ⟨j, h1, h, h2, h3, h4⟩
theorem atI_nat {α : Type} {xs : List α} {j : Nat} {v : α} (h : xs[j]? = some v) : atI xs (j : Int) = some v := by
  have hj : j < xs.length := (List.getElem?_eq_some_iff.mp h).1
  have e : ixN xs.length (j : Int) = some j := by
    unfold ixN
    rw [if_pos (by omega), if_pos (by omega)]; simp
  unfold atI; rw [e]; exact h
/-! ### what may be subscripted -/
/-- what stands as an index of a plain subscript -/
def PlainIx (b : Expr) : Prop := ∀ o i, subscripted b false o i = operate [o, i] (getItem o i)
/-- a subscript by values -/
def IxR (X : Cx) (r : R2) : Prop :=
  ∀ (value slice : Expr) (pins : List (Addr × Obj)) (s : Shared) (σ : St) (H : Hp) (x y : V) (v u : Value) (Q : VK), Inv X pins σ H s → RelV x v → RelV y u → r x y H Q →
    subscripted slice false v u = operate [v, u] (getItem v u) → wpAny (model X.prog X.w) X.A (subscriptTail value slice v u) (EP X pins σ Q) X.xe s
/-- a call of a builtin's method by values: the receiver, the arguments -/
def MtR (X : Cx) (id : String) (r : V → List V → Hp → VK → Prop) : Prop :=
  ∀ (pins : List (Addr × Obj)) (s : Shared) (σ : St) (H : Hp) (x : V) (xs : List V) (v : Value) (us : List Value) (Q : VK), Inv X pins σ H s → RelV x v → Vals xs us → r x xs H Q →
    wpAny (model X.prog X.w) X.A (call (.builtin id) (v :: us)) (EP X pins σ Q) X.xe s
section
variable {X : Cx} {a b : Expr} {ta tb : TE} {pos : Pos}
theorem IxR.or {r r' : R2} (h : IxR X r) (h' : IxR X r') : IxR X (fun x y H Q => r x y H Q ∨ r' x y H Q) := by
  intro value slice pins s σ H x y v u Q I rx ry q hs
  rcases q with q | q
  · exact h value slice pins s σ H x y v u Q I rx ry q hs
  · exact h' value slice pins s σ H x y v u Q I rx ry q hs
theorem MtR.or {id : String} {r r' : V → List V → Hp → VK → Prop} (h : MtR X id r) (h' : MtR X id r') : MtR X id (fun x xs H Q => r x xs H Q ∨ r' x xs H Q) := by
  intro pins s σ H x xs v us Q I rx rs q
  rcases q with q | q
  · exact h pins s σ H x xs v us Q I rx rs q
  · exact h' pins s σ H x xs v us Q I rx rs q
/-- a[b] -/
theorem pe_ix {r : R2} (hr : IxR X r) (ha : PE X a ta) (hb : PE X b tb) (hs : PlainIx b) : PE X (.Subscript a b pos) (tOp r ta tb) := by
  intro pins s σ H Q I h
  exact Subscript_ (binT ha hb I h fun v u s2 x y H2 I2 rx ry q => hr a b pins s2 σ H2 x y v u Q I2 rx ry q (hs _ _))

def rIxL (K : PySem.W.Frag) : R2 := fun x y H Q => ∃ p xs i v, x = .ref p ∧ y = .int i ∧ SqL K H p xs ∧ atI xs i = some v ∧ Q v H
def rIxT (K : PySem.W.Frag) : R2 := fun x y H Q => ∃ p xs i v, x = .ref p ∧ y = .int i ∧ SqT K H p xs ∧ atI xs i = some v ∧ Q v H
def rIxS : R2 := fun x y H Q => ∃ z i c, x = .str z ∧ y = .int i ∧ z.length ≤ sizeLine ∧ atI z.cps.toList i = some c ∧ Q (.str ⟨#[c]⟩) H
theorem ix_list : IxR X (rIxL X.K) := by
  intro value slice pins s σ H x y v u Q I rx ry h hs
  obtain ⟨p, xs, i, z, rfl, rfl, hq, he, q⟩ := h
  cases rx
  obtain ⟨t, rfl⟩ := ry
  obtain ⟨its, r, pl, hz⟩ := I.list hq
  obtain ⟨j, h1, h2, h3, h4, h5⟩ := atI_get he
  obtain ⟨w, ew, rw'⟩ := r.get h2
  have hl := r.length
  have hn := line63
  have fin : EP X pins σ Q w s := ⟨z, H, I, rw', q⟩
  by_cases h0 : 0 ≤ i
  · have hj : i.toNat = j := by
      rw [seqIndex_of h0 h5] at h1
      exact Option.some.inj h1
    exact item_listR pl.isList h0 (by omega) (by rw [hj]; simpa using ew) fin hs
  · have hj : (i + (its.toArray.size : Int)).toNat = j := by
      rw [seqIndex_neg (by omega) h4] at h1
      rw [List.size_toArray, ← hl]
      exact Option.some.inj h1
    exact subscriptTail_builtinR (x := w) pl.isList.typeIs slot_list_getitem.lookup
      (wpAny_getItem_list_neg (Q := fun r s' => r = w ∧ EP X pins σ Q r s') pl.isList (by omega) (by rw [List.size_toArray] <;> omega) (by omega) (by rw [hj]; simpa using ew) ⟨rfl, fin⟩) hs
theorem ix_tup : IxR X (rIxT X.K) := by
  intro value slice pins s σ H x y v u Q I rx ry h hs
  obtain ⟨p, xs, i, z, rfl, rfl, hq, he, q⟩ := h
  cases rx
  obtain ⟨t, rfl⟩ := ry
  obtain ⟨its, r, pl, hz⟩ := I.tuple hq
  obtain ⟨j, h1, h2, h3, h4, h5⟩ := atI_get he
  obtain ⟨w, ew, rw'⟩ := r.get h2
  have hl := r.length
  have hn := line63
  have fin : EP X pins σ Q w s := ⟨z, H, I, rw', q⟩
  exact subscriptTail_builtinR (x := w) pl.typeIs slot_tuple_getitem.lookup
    (getItem_tuple (j := j) (Q := fun r s' => r = w ∧ EP X pins σ Q r s') pl (by omega) (by omega) (by rw [List.size_toArray, ← hl]; exact h1) (by simpa using ew) ⟨rfl, fin⟩) hs
theorem ix_str : IxR X rIxS := by
  intro value slice pins s σ H x y v u Q I rx ry h hs
  obtain ⟨z, i, c, rfl, rfl, hz, he, q⟩ := h
  obtain ⟨t, rfl⟩ := rx
  obtain ⟨t', rfl⟩ := ry
  obtain ⟨j, h1, h2, h3, h4, h5⟩ := atI_get he
  have hl : z.cps.toList.length = z.length := by simp [Str.length]
  rw [hl] at h1 h4 h5
  have hn := line63
  exact tail_any (typeIs_str s z t) slot_str_getitem.lookup (getItem_str (c := c) (by
    have e1 : decide (i < -(2 ^ 63 : Int)) = false := decide_eq_false (by omega)
    have e2 : decide (i ≥ 2 ^ 63) = false := decide_eq_false (by omega)
    rw [e1, e2, Bool.or_false]) (by rw [h1]; simpa using h2) ⟨.str ⟨#[c]⟩, H, I.tok _, ⟨_, rfl⟩, q⟩) hs
/-- list, tuple or str -/
def rIx (K : PySem.W.Frag) : R2 := fun x y H Q => rIxL K x y H Q ∨ rIxT K x y H Q ∨ rIxS x y H Q
theorem ix_seq : IxR X (rIx X.K) := ix_list.or (ix_tup.or ix_str)

/-! ### xs[i] = v, any sign -/
/-- the list's object behind a store -/
theorem Inv.lst {pins : List (Addr × Obj)} {σ : St} {H : Hp} {s : Shared} {p : Addr} {xs : List V} (I : Inv X pins σ H s) (h : H p = some (.lst xs)) :
    ∃ (its : List Value) (n : Nat), Vals xs its ∧ s.heap.get? p = some { cls := .type "list", data := .seq its.toArray n } ∧ xs.length ≤ sizeLine := by
  obtain ⟨z, its, n, r, e⟩ := I.hok p _ h
  exact ⟨its, n, r, e, z⟩
/-- the list at p is written by an update of its object -/
def rSetL : V → V → V → Hp → (Hp → Prop) → Prop := fun o i v H Q => ∃ p xs k j, o = .ref p ∧ i = .int k ∧ H p = some (.lst xs) ∧ ixN xs.length k = some j ∧ Q (upd H p (.lst (xs.set j v)))
/-! ### slices -/
theorem slice_bounds (lo hi : Option Int) (n : Nat) : (sliceBounds lo hi none n).1 = ((HT.sIx n 0 lo : Nat) : Int) ∧ (sliceBounds lo hi none n).2.1 = ((HT.sIx n n hi : Nat) : Int) ∧ (sliceBounds lo hi none n).2.2 = 1 := by
  refine ⟨?_, ?_, rfl⟩
  · cases lo with
    | none => simp [sliceBounds, HT.sIx]
    | some i =>
      simp only [sliceBounds, HT.sIx, Option.getD_none, show (1 : Int) > 0 by decide, if_true]
      by_cases h : i < 0
      · simp only [h, if_true] <;> omega
      · simp only [h, if_false] <;> omega
  · cases hi with
    | none => simp [sliceBounds, HT.sIx]
    | some i =>
      simp only [sliceBounds, HT.sIx, Option.getD_none, show (1 : Int) > 0 by decide, if_true]
      by_cases h : i < 0
      · simp only [h, if_true] <;> omega
      · simp only [h, if_false] <;> omega
theorem slicePick_cut (its : List Value) (lo hi : Option Int) : slicePick its.toArray lo hi none = ((its.drop (HT.sIx its.length 0 lo)).take (HT.sIx its.length its.length hi - HT.sIx its.length 0 lo)).toArray := by
  obtain ⟨h1, h2, h3⟩ := slice_bounds lo hi its.toArray.size
  unfold slicePick
  rw [h1, h2, h3]
  simp only [sliceRange_one, pick_run, List.size_toArray] <;> rfl
/-- xs[lo:hi] of a list: a new list -/
def rSlL (K : PySem.W.Frag) : V → Option Int → Option Int → Hp → VK → Prop := fun x lo hi H Q => ∃ a xs, x = .ref a ∧ SqL K H a xs ∧ ∀ p, H p = none → Q (.ref p) (upd H p (.lst (cutV xs lo hi)))
theorem sl_list : SlR X (rSlL X.K) := by
  intro pins s σ H x v vl vu lo hi sl Q I rx hs pl pu h
  obtain ⟨a, xs, rfl, hx, q⟩ := h
  cases rx
  obtain ⟨its, r, ht, hz⟩ := I.list hx
  have hlen := r.length
  refine ⟨"list", _, slot_list_getitem.lookup, ht.isList.typeIs, ?_⟩
  refine wpAny_getItem_list_slice ht.isList hs pl pu .none (by simp) ?_ (by rw [List.size_toArray] <;> omega)
  rw [slicePick_cut, ← hlen]
  refine ⟨.ref s.heap.objs.size, _, I.laid (t' := s.toks) (o := .lst (cutV xs lo hi)) (fun b ob q => Heap.get?_push_of_some _ q) (Nat.le_refl _) ?_, rfl, q _ (I.hok.fresh (Nat.le_refl _))⟩
  exact ⟨Nat.le_trans (cutV_length xs lo hi) hz, _, 0, (r.drop (HT.sIx xs.length 0 lo)).take (HT.sIx xs.length xs.length hi - HT.sIx xs.length 0 lo), Heap.get?_push_size _ rfl⟩

/-! ### in, not in: flat items -/
def flatV : V → Bool
  | .non => true
  | .bl _ => true
  | .int _ => true
  | .str _ => true
  | _ => false
/-- == of flat values -/
def eqV : V → V → Bool
  | .non, .non => true
  | .bl a, .bl b => a == b
  | .bl a, .int b => (if a then 1 else 0) == b
  | .int a, .bl b => a == (if b then 1 else 0)
  | .int a, .int b => a == b
  | .str a, .str b => a == b
  | _, _ => false
theorem eqAt_V {A : Around} {s : Shared} {y x : V} {u v : Value} (ry : RelV y u) (rx : RelV x v) (fy : flatV y = true) (fx : flatV x = true) : SeqAt.EqAt A s u v (eqV y x) := by
  cases y with
  | non =>
    cases ry
    cases x with
    | non => cases rx; exact SeqAt.EqAt.same _
    | bl b => cases rx; exact SeqAt.EqAt.none_bool b
    | int b => obtain ⟨t, rfl⟩ := rx; exact SeqAt.EqAt.none_int b t
    | str b => obtain ⟨t, rfl⟩ := rx; exact SeqAt.EqAt.none_str b t
    | _ => exact absurd (show false = true from fx) Bool.false_ne_true
  | bl a =>
    cases ry
    cases x with
    | non => cases rx; exact SeqAt.EqAt.bool_none a
    | bl b => cases rx; exact SeqAt.EqAt.bool_bool a b
    | int b => obtain ⟨t, rfl⟩ := rx; exact SeqAt.EqAt.bool_int a b t
    | str b => obtain ⟨t, rfl⟩ := rx; exact SeqAt.EqAt.bool_str a b t
    | _ => exact absurd (show false = true from fx) Bool.false_ne_true
  | int a =>
    obtain ⟨t', rfl⟩ := ry
    cases x with
    | non => cases rx; exact SeqAt.EqAt.int_none a t'
    | bl b => cases rx; exact SeqAt.EqAt.int_bool a t' b
    | int b => obtain ⟨t, rfl⟩ := rx; exact SeqAt.EqAt.int_int a t' b t
    | str b => obtain ⟨t, rfl⟩ := rx; exact SeqAt.EqAt.int_str a t' b t
    | _ => exact absurd (show false = true from fx) Bool.false_ne_true
  | str a =>
    obtain ⟨t', rfl⟩ := ry
    cases x with
    | non => cases rx; exact SeqAt.EqAt.str_none a t'
    | bl b => cases rx; exact SeqAt.EqAt.str_bool a t' b
    | int b => obtain ⟨t, rfl⟩ := rx; exact SeqAt.EqAt.str_int a t' b t
    | str b => obtain ⟨t, rfl⟩ := rx; exact SeqAt.EqAt.str_str a t' b t
    | _ => exact absurd (show false = true from fx) Bool.false_ne_true
  | _ => exact absurd (show false = true from fy) Bool.false_ne_true
/-- the items' answers, read off the values (a value's own answer does not lean on its token) -/
def eqU (x : V) (u : Value) : Bool := match u with
  | .none => eqV .non x
  | .bool b => eqV (.bl b) x
  | .int i _ => eqV (.int i) x
  | .str z _ => eqV (.str z) x
  | _ => false
theorem eqU_of {x y : V} {u : Value} (r : RelV y u) (f : flatV y = true) : eqU x u = eqV y x := by
  cases y with
  | non => cases r; rfl
  | bl b => cases r; rfl
  | int i => obtain ⟨t, rfl⟩ := r; rfl
  | str z => obtain ⟨t, rfl⟩ := r; rfl
  | _ => exact absurd (show false = true from f) Bool.false_ne_true
theorem any_eqU {x : V} : ∀ {xs : List V} {us : List Value}, Vals xs us → xs.all flatV = true → us.any (eqU x) = xs.any fun y => eqV y x
  | _, _, .nil, _ => rfl
  | y :: xs, u :: us, .cons r t, f => by
    rw [List.all_cons, Bool.and_eq_true] at f
    rw [List.any_cons, List.any_cons, eqU_of r f.1, any_eqU t f.2]
theorem mem_eqAt {A : Around} {s : Shared} {x : V} {v : Value} (rx : RelV x v) (fx : flatV x = true) : ∀ {xs : List V} {us : List Value}, Vals xs us → xs.all flatV = true → ∀ u ∈ us, SeqAt.EqAt A s u v (eqU x u)
  | _, _, .nil, _ => fun u hu => by cases hu
  | y :: xs, u :: us, .cons r t, f => fun u' hu => by
    rw [List.all_cons, Bool.and_eq_true] at f
    rcases List.mem_cons.mp hu with rfl | hu
    · rw [eqU_of r f.1]; exact eqAt_V r rx f.1 fx
    · exact mem_eqAt rx fx t f.2 u' hu
def inV (x : V) (xs : List V) : Bool := xs.any fun y => eqV y x
/-- x in a list or tuple of flat items -/
def rIn (K : PySem.W.Frag) (neg : Bool) : R2 := fun x y H Q => ∃ p xs, y = .ref p ∧ (SqL K H p xs ∨ SqT K H p xs) ∧ flatV x = true ∧ xs.all flatV = true ∧ Q (.bl (if neg then !inV x xs else inV x xs)) H
theorem op_in_seq : OpR X (compareOp .In) (rIn X.K false) := by
  intro pins s σ H x y v u Q I rx ry h
  obtain ⟨p, xs, rfl, hq, fx, fs, q⟩ := h
  cases ry
  rcases hq with hq | hq
  · obtain ⟨its, r, pl, hz⟩ := I.list hq
    refine SeqAt.in_listAt (eqU x) pl.isList (fun w hw => mem_eqAt rx fx r fs w (by simpa using hw)) ⟨.bl _, H, I, rfl, ?_⟩
    rw [show its.toArray.any (eqU x) = its.any (eqU x) by simp, any_eqU r fs]
    exact q
  · obtain ⟨its, r, pl, hz⟩ := I.tuple hq
    refine SeqAt.in_tupleAt (eqU x) pl (fun w hw => mem_eqAt rx fx r fs w (by simpa using hw)) ⟨.bl _, H, I, rfl, ?_⟩
    rw [show its.toArray.any (eqU x) = its.any (eqU x) by simp, any_eqU r fs]
    exact q
/-! ### len, list(x), tuple(x) of any list or tuple that is read -/
theorem call_len_seq : CallR X (.builtin "len") (fun xs H Q => ∃ p ys, xs = [.ref p] ∧ (SqL X.K H p ys ∨ SqT X.K H p ys) ∧ Q (.int ys.length) H) := by
  intro pins s σ H xs us Q I r h
  obtain ⟨p, ys, rfl, hq, q⟩ := h
  obtain ⟨u, rfl, rx⟩ := vals1 r
  cases rx
  have hn := line63
  rcases hq with hq | hq
  · obtain ⟨its, r', pl, hz⟩ := I.list hq
    have hlen := r'.length
    exact Calls.call_len_list pl.isList (by simp only [List.size_toArray] <;> omega) ⟨.int ys.length, H, I.tok _, ⟨s.toks + 1, by rw [List.size_toArray, hlen]⟩, q⟩
  · obtain ⟨its, r', pl, hz⟩ := I.tuple hq
    have hlen := r'.length
    exact len_tuple pl (by simp only [List.size_toArray] <;> omega) ⟨.int ys.length, H, I.tok _, ⟨s.toks + 1, by rw [List.size_toArray, hlen]⟩, q⟩
theorem call_len_str : CallR X (.builtin "len") (fun xs H Q => ∃ z, xs = [.str z] ∧ z.length ≤ sizeLine ∧ Q (.int z.length) H) := by
  intro pins s σ H xs us Q I r h
  obtain ⟨z, rfl, hz, q⟩ := h
  obtain ⟨u, rfl, t, rfl⟩ := vals1 r
  have hn := line63
  exact len_str (by omega) ⟨.int z.length, H, I.tok _, ⟨_, rfl⟩, q⟩
theorem CallR.or {f : Value} {r r' : List V → Hp → VK → Prop} (h : CallR X f r) (h' : CallR X f r') : CallR X f (fun xs H Q => r xs H Q ∨ r' xs H Q) := by
  intro pins s σ H xs us Q I rs q
  rcases q with q | q
  · exact h pins s σ H xs us Q I rs q
  · exact h' pins s σ H xs us Q I rs q
theorem call_list_of : CallR X (.type "list") (fun xs H Q => ∃ p ys, xs = [.ref p] ∧ (SqL X.K H p ys ∨ SqT X.K H p ys) ∧ ∀ l, H l = none → Q (.ref l) (upd H l (.lst ys))) := by
  intro pins s σ H xs us Q I r h
  obtain ⟨p, ys, rfl, hq, q⟩ := h
  obtain ⟨u, rfl, rx⟩ := vals1 r
  cases rx
  have fin : ∀ (its : List Value), Vals ys its → ys.length ≤ sizeLine → ∀ (h' : Heap) (c' : Nat), (∀ b o', s.heap.get? b = some o' → h'.get? b = some o') →
      h'.get? s.heap.objs.size = some { cls := .type "list", dict := none, data := .seq its.toArray c', slots := #[] } → EP X pins σ Q (.ref s.heap.objs.size) { s with heap := h' } := fun its r' hz h' c' kp e =>
    ⟨.ref s.heap.objs.size, _, I.laid (t' := s.toks) kp (Nat.le_refl _) (show ObjOk X.prog X.w _ h' _ (.lst ys) from ⟨hz, its, c', r', e⟩), rfl, q _ (I.hok.fresh (Nat.le_refl _))⟩
  rcases hq with hq | hq
  · obtain ⟨its, r', pl, hz⟩ := I.list hq
    have hlen := r'.length
    obtain ⟨o, ho, hc, n, hd⟩ := pl.isList
    exact call_list_seq p (.inl rfl) ho hc hd (fun h' c' kp e => fin its r' hz h' c' kp e) (by simp only [List.size_toArray] <;> omega)
  · obtain ⟨its, r', pl, hz⟩ := I.tuple hq
    have hlen := r'.length
    obtain ⟨o, ho, hc, n, hd⟩ := pl
    exact call_list_seq p (.inr rfl) ho hc hd (fun h' c' kp e => fin its r' hz h' c' kp e) (by simp only [List.size_toArray] <;> omega)
theorem call_tuple_of : CallR X (.type "tuple") (fun xs H Q => ∃ p ys, xs = [.ref p] ∧ ((SqL X.K H p ys ∧ ∀ l, H l = none → Q (.ref l) (upd H l (.tup ys))) ∨ (SqT X.K H p ys ∧ Q (.ref p) H))) := by
  intro pins s σ H xs us Q I r h
  obtain ⟨p, ys, rfl, h⟩ := h
  obtain ⟨u, rfl, rx⟩ := vals1 r
  cases rx
  rcases h with ⟨hq, q⟩ | ⟨hq, q⟩
  · obtain ⟨its, r', pl, hz⟩ := I.list hq
    have hlen := r'.length
    refine call_tuple_list pl.isList (fun h' kp => ?_) (by simp only [List.size_toArray] <;> omega)
    have I1 : Inv X pins σ H { s with heap := h' } := I.kept (t' := s.toks) kp
    have I2 : Inv X pins σ (upd H h'.objs.size (.tup ys)) { s with heap := h'.push { cls := .type "tuple", data := .seq its.toArray } } :=
      I1.laid (t' := s.toks) (fun b o e => Heap.get?_push_of_some _ e) (Nat.le_refl _) (show ObjOk X.prog X.w _ _ _ (.tup ys) from ⟨hz, its, r', IsTup.new _ _⟩)
    exact ⟨.ref h'.objs.size, _, I2, rfl, q _ (I1.hok.fresh (Nat.le_refl _))⟩
  · obtain ⟨its, r', pl, hz⟩ := I.tuple hq
    exact call_tuple_same pl ⟨.ref p, H, I, rfl, q⟩

/-! ### the call of a builtin's method: o.m(..) -/
/-- the value is of that builtin type -/
def tyV (K : PySem.W.Frag) (T : String) (x : V) (H : Hp) : Prop := match x with
  | .str _ => T = "str"
  | .int _ => T = "int"
  | .ref p => (T = "list" ∧ ∃ xs, SqL K H p xs) ∨ (T = "tuple" ∧ ∃ o, K.lookup p = some o ∧ o.cls = .type "tuple" ∧ o.dict = none) ∨
      (T = "dict" ∧ ((∃ kvs, H p = some (.dK kvs)) ∨ ∃ kvs, H p = some (.dT kvs))) ∨ (T = "set" ∧ ∃ S n, H p = some (.set S n))
  | _ => False
theorem tyV_is {pins : List (Addr × Obj)} {σ : St} {H : Hp} {s : Shared} {T : String} {x : V} {v : Value} (I : Inv X pins σ H s) (r : RelV x v) (ty : tyV X.K T x H) :
    s.TypeIs v T ∧ ∀ a, v = .ref a → ∃ ob, s.heap.get? a = some ob ∧ ob.dict = none := by
  cases x with
  | str z =>
    obtain ⟨t, rfl⟩ := r
    cases (show T = "str" from ty)
    exact ⟨typeIs_str s z t, fun _ e => nomatch e⟩
  | int i =>
    obtain ⟨t, rfl⟩ := r
    cases (show T = "int" from ty)
    exact ⟨typeIs_int s i t, fun _ e => nomatch e⟩
  | ref p =>
    cases r
    rcases ty with ⟨rfl, xs, hq⟩ | ⟨rfl, o, hk, hc, hd⟩ | ⟨rfl, hk⟩ | ⟨rfl, S, n, hk⟩
    · obtain ⟨its, _, pl, _⟩ := I.list hq
      refine ⟨pl.isList.typeIs, fun a e => ?_⟩
      cases e
      obtain ⟨o, n, e, c, hd, _⟩ := pl
      exact ⟨o, e, hd⟩
    · refine ⟨⟨o, I.kIn p o hk, hc⟩, fun a e => ?_⟩
      cases e
      exact ⟨o, I.kIn _ o hk, hd⟩
    · have z : ∃ o, s.heap.get? p = some o ∧ o.ExactDict := by
        rcases hk with ⟨kvs, hk⟩ | ⟨kvs, hk⟩
        · obtain ⟨_, _, _, _, o, _, _, e, ex, _⟩ := I.hok p _ hk
          exact ⟨o, e, ex⟩
        · obtain ⟨_, _, _, _, o, _, _, e, ex, _⟩ := I.hok p _ hk
          exact ⟨o, e, ex⟩
      obtain ⟨o, e, ex⟩ := z
      refine ⟨⟨o, e, ex.1⟩, fun a e2 => ?_⟩
      cases e2
      exact ⟨o, e, ex.2.1⟩
    · obtain ⟨o, _, _, _, e, ex, _⟩ := I.hok p _ hk
      refine ⟨⟨o, e, ex.1⟩, fun a e2 => ?_⟩
      cases e2
      exact ⟨o, e, ex.2.1⟩
  | _ => exact False.elim ty
def tBM0 (K : PySem.W.Frag) (T : String) (r : V → List V → Hp → VK → Prop) (to : TE) : TE := fun σ H Q => to σ H fun x H1 => tyV K T x H1 ∧ r x [] H1 Q
def tBM (K : PySem.W.Frag) (T : String) (r : V → List V → Hp → VK → Prop) (to : TE) (t : TA) : TE := fun σ H Q => to σ H fun x H1 => tyV K T x H1 ∧ t σ H1 fun xs H2 => r x xs H2 Q
variable {o e : Expr} {es : List Expr} {to : TE} {t : TA} {name : Str} {apos cpos : Pos} {T id : String} {r : V → List V → Hp → VK → Prop}
theorem pe_bm (pa : PlainAttrs T) (slot : Slot T name id) (hty : typeOf (.builtin id) = pure (.type "method_descriptor")) (hm : MtR X id r) (ho : PE X o to) (ha : PA X (e :: es) t)
    (hbase : attributeBase o name X.env (eval o X.env) = eval o X.env := by rfl)
    (hfew : ((backTo cpos (starEach (e :: es) X.env)).all (fun x => !x.1) && (backToKw cpos (keywordEach [] X.env)).all (fun x => x.1.isSome)
      && decide ((e :: es).length + ([] : List Keyword).length + (if ([] : List Keyword).isEmpty then 0 else 1) < 30)) = true := by rfl)
    (hline : (apos.endLine == cpos.line) = true := by rfl) (hs : starEach (e :: es) X.env = (false, eval e X.env) :: starEach es X.env := by rfl) (hplain : (backTo cpos (starEach es X.env)).any (·.1) = false := by rfl) :
    PE X (.Call (.Attribute o name apos) (e :: es) [] cpos) (tBM X.K T r to t) := by
  intro pins s σ H Q I h
  refine wpAny_Call_method_late hbase hfew hline rfl (thn (ho pins s σ H _ I h) fun v s1 ⟨x, H1, I1, r1, ty, q1⟩ => ?_)
  obtain ⟨h1, h2⟩ := tyV_is I1 r1 ty
  refine ⟨T, id, pa, slot, hty, h1, h2, ?_⟩
  have hA := ha cpos pins s1 σ H1 _ I1 q1
  rw [hs] at hA ⊢
  refine Calls.callWith_builtin (by show (false || (backTo cpos (starEach es X.env)).any (·.1)) = false; rw [hplain] <;> rfl) (Calls.evalArgs_plain ?_)
  exact thn hA fun us s2 ⟨vs, H2, I2, r2, q2⟩ => hm pins s2 σ H2 x vs v us Q I2 r1 r2 q2
/- xs.append(e), list.index on a module's tuple .. are MtR facts of 06m -/
end
end L2

namespace L2
open PySem PySem.Spec PyProof.Rows

def MtM (X : Cx) (id : String) (r : V → List V → Hp → VK → Prop) : Prop :=
  ∀ (pins : List (Addr × Obj)) (s : Shared) (σ : St) (H : Hp) (x : V) (xs : List V) (v : Value) (us : List Value) (Q : VK), Inv X pins σ H s → RelV x v → Vals xs us → r x xs H Q →
    wpAny (model X.prog X.w) X.A (call (.builtin id) (v :: us)) (EP X pins σ Q) X.xe s

/-! ### lists of values -/
theorem Vals.one : ∀ {x : V} {us : List Value}, Vals [x] us → ∃ u, us = [u] ∧ RelV x u
  | _, _, .cons r .nil => ⟨_, rfl, r⟩
theorem Vals.two : ∀ {x y : V} {us : List Value}, Vals [x, y] us → ∃ u v, us = [u, v] ∧ RelV x u ∧ RelV y v
  | _, _, _, .cons r (.cons q .nil) => ⟨_, _, rfl, r, q⟩
theorem Vals.zero : ∀ {us : List Value}, Vals [] us → us = []
  | _, .nil => rfl
theorem Vals.dropLast {xs : List V} {us : List Value} (h : Vals xs us) : Vals xs.dropLast us.dropLast := by
  induction h with
  | nil => exact .nil
  | cons r t ih =>
    cases t with
    | nil => exact .nil
    | cons q t' => exact .cons r ih
theorem Vals.eraseIdx : ∀ {xs : List V} {us : List Value} (i : Nat), Vals xs us → Vals (xs.eraseIdx i) (us.eraseIdx i)
  | _, _, _, .nil => .nil
  | _, _, 0, .cons _ t => t
  | _, _, i + 1, .cons r t => .cons r (Vals.eraseIdx i t)
theorem Vals.reverse {xs : List V} {us : List Value} (h : Vals xs us) : Vals xs.reverse us.reverse := by
  induction h with
  | nil => exact .nil
  | cons r t ih => rw [List.reverse_cons, List.reverse_cons]; exact Vals.append ih (.cons r .nil)
theorem Vals.rep {xs : List V} {us : List Value} (h : Vals xs us) : ∀ k : Nat, Vals (List.replicate k xs).flatten (List.replicate k us).flatten
  | 0 => .nil
  | k + 1 => by
    rw [List.replicate_succ, List.replicate_succ, List.flatten_cons, List.flatten_cons]
    exact Vals.append h (Vals.rep h k)
theorem len_erase {α : Type} : ∀ (l : List α) (i : Nat), (l.eraseIdx i).length ≤ l.length
  | [], _ => Nat.le_refl _
  | _ :: _, 0 => Nat.le_succ _
  | _ :: r, i + 1 => Nat.succ_le_succ (len_erase r i)
theorem foldl_rep (its : List Value) : ∀ (k : Nat) (acc : List Value),
    List.foldl (fun x1 x2 => x1 ++ x2) acc.toArray (List.replicate k its.toArray) = (acc ++ (List.replicate k its).flatten).toArray
  | 0, acc => by simp
  | k + 1, acc => by
    have e : acc.toArray ++ its.toArray = (acc ++ its).toArray := by simp
    have e2 : (acc ++ its) ++ (List.replicate k its).flatten = acc ++ (List.replicate (k + 1) its).flatten := by
      rw [List.replicate_succ, List.flatten_cons, List.append_assoc]
    rw [← e2, ← foldl_rep its k (acc ++ its), ← e, List.replicate_succ, List.foldl_cons]

section
variable {X : Cx} {pins : List (Addr × Obj)} {σ : St} {H : Hp} {s : Shared} {l b : Addr} {xs ys zs : List V}

/-! ### the two steps: a tracked list is rewritten, a new list is laid -/
theorem Inv.lset {its its' : List Value} {n : Nat} {f : Array Value → Array Value} {t' : Nat} (I : Inv X pins σ H s) (hH : H l = some (.lst xs))
    (e : s.heap.get? l = some { cls := .type "list", data := .seq its.toArray n }) (hf : f its.toArray = its'.toArray) (hv : Vals ys its') (hz : ys.length ≤ sizeLine) :
    Inv X pins σ (upd H l (.lst ys)) { s with heap := s.heap.update l (Obj.mapSeq f), toks := t' } := by
  have q := PySem.IsL.update e f
  rw [hf] at q
  refine I.write (x := l) (e := l) (by rw [hH]; exact trivial) (.inl rfl) (fun b' u hb hu => (Heap.get?_update_other s.heap (Obj.mapSeq f) (Ne.symm hb)).trans hu) ⟨_, q⟩ ?_
  exact ⟨hz, its', _, hv, q⟩
theorem Inv.lnew {its : List Value} {t' : Nat} (I : Inv X pins σ H s) (hv : Vals ys its) (hz : ys.length ≤ sizeLine) :
    Inv X pins σ (upd H s.heap.objs.size (.lst ys)) { s with heap := s.heap.push { cls := .type "list", data := .seq its.toArray }, toks := t' } :=
  I.laid (fun _ _ q => Heap.get?_push_of_some _ q) (Nat.le_refl _) ⟨hz, its, 0, hv, Heap.get?_push_size _ rfl⟩
theorem Inv.fresh (I : Inv X pins σ H s) : H s.heap.objs.size = none := I.hok.fresh (Nat.le_refl _)
theorem Inv.lstM (I : Inv X pins σ H s) (hH : H l = some (.lst xs)) : xs.length ≤ sizeLine ∧ ∃ (its : List Value) (n : Nat), Vals xs its ∧ xs.length = its.length ∧ s.heap.get? l = some { cls := .type "list", data := .seq its.toArray n } := by
  obtain ⟨z, its, n, r, e⟩ := I.hok l _ hH
  exact ⟨z, its, n, r, r.length, e⟩

theorem notLongL {n : Nat} (h : n ≤ sizeLine) : Builtin.List.listTooLong n = false := by
  unfold Builtin.List.listTooLong
  exact decide_eq_false (by omega)
end

section
variable {X : Cx}

/-! ### methods -/
def rAppend : V → List V → Hp → VK → Prop := fun x vs H Q => ∃ l xs y, x = .ref l ∧ vs = [y] ∧ H l = some (.lst xs) ∧ xs.length < sizeLine ∧ Q .non (upd H l (.lst (xs ++ [y])))
theorem mt_append : MtM X "list.append" rAppend := by
  intro pins s σ H x vs v us Q I rx rv h
  obtain ⟨l, xs, y, rfl, rfl, hH, hz, q⟩ := h
  cases rx
  obtain ⟨u, rfl, ru⟩ := rv.one
  obtain ⟨z, its, n, r, hl, e⟩ := I.lstM hH
  refine call_meets F.slot_list_append ⟨_, e, rfl⟩ F.entry_list_append (F.args_list_append_2 _ _) (PySem.list_append l its.toArray n u (by rw [List.size_toArray]; omega)) ⟨e, ?_⟩
  refine ⟨.non, _, I.lset (its' := its ++ [u]) hH e (by simp) (r.append (.cons ru .nil)) ?_, rfl, q⟩
  rw [List.length_append, List.length_singleton]
  omega

def rExtend : V → List V → Hp → VK → Prop := fun x vs H Q => ∃ l b xs zs, x = .ref l ∧ vs = [.ref b] ∧ H l = some (.lst xs) ∧ H b = some (.lst zs) ∧ xs.length + zs.length ≤ sizeLine ∧ Q .non (upd H l (.lst (xs ++ zs)))
def rPop : V → List V → Hp → VK → Prop := fun x vs H Q => ∃ l xs y, x = .ref l ∧ vs = [] ∧ H l = some (.lst xs) ∧ xs[xs.length - 1]? = some y ∧ Q y (upd H l (.lst xs.dropLast))
def rPopAt : V → List V → Hp → VK → Prop := fun x vs H Q => ∃ l xs i k y, x = .ref l ∧ vs = [.int i] ∧ H l = some (.lst xs) ∧ -(2 ^ 63) ≤ i ∧ i < 2 ^ 63 ∧ seqIndex? i xs.length = some k ∧ xs[k]? = some y ∧ Q y (upd H l (.lst (xs.eraseIdx k)))
theorem mt_popAt : MtM X "list.pop" rPopAt := by
  intro pins s σ H x vs v us Q I rx rv h
  obtain ⟨l, xs, i, k, y, rfl, rfl, hH, h1, h2, hk, hy, q⟩ := h
  cases rx
  obtain ⟨u, rfl, ru⟩ := rv.one
  obtain ⟨t, rfl⟩ := ru
  obtain ⟨z, its, n, r, hl, e⟩ := I.lstM hH
  obtain ⟨w, hw, rw'⟩ := r.get hy
  refine call_meets F.slot_list_pop ⟨_, e, rfl⟩ F.entry_list_pop (F.args_list_pop_2 _ _)
    (MeetsSeq.list_pop_at l its.toArray n i t k w (fitsIndex_both h1 h2) (by rw [List.size_toArray, ← hl]; exact hk) (by rw [← Array.getElem?_toList]; exact hw) (by rw [List.size_toArray]; omega)) ⟨e, ?_⟩
  refine ⟨y, _, I.lset (its' := its.eraseIdx k) hH e ?_ (r.eraseIdx k) ?_, rw', q⟩
  · show its.toArray.eraseIdxIfInBounds k = (its.eraseIdx k).toArray
    rw [List.eraseIdxIfInBounds_toArray]
  · have := len_erase xs k
    omega

def rReverse : V → List V → Hp → VK → Prop := fun x vs H Q => ∃ l xs, x = .ref l ∧ vs = [] ∧ H l = some (.lst xs) ∧ Q .non (upd H l (.lst xs.reverse))
def rClear : V → List V → Hp → VK → Prop := fun x vs H Q => ∃ l xs, x = .ref l ∧ vs = [] ∧ H l = some (.lst xs) ∧ Q .non (upd H l (.lst []))
/-! ### list + list, list += list, list * int -/
def rCat : R2 := fun x y H Q => ∃ l b xs zs, x = .ref l ∧ y = .ref b ∧ H l = some (.lst xs) ∧ H b = some (.lst zs) ∧ xs.length + zs.length ≤ sizeLine ∧ ∀ p, H p = none → Q (.ref p) (upd H p (.lst (xs ++ zs)))
theorem op_cat : OpR X (binaryOp .Add) rCat := by
  intro pins s σ H x y v u Q I rx ry h
  obtain ⟨l, b, xs, zs, rfl, rfl, hH, hB, hz, q⟩ := h
  cases rx
  cases ry
  obtain ⟨z, its, n, r, hl, e⟩ := I.lstM hH
  obtain ⟨z2, its2, n2, r2, hl2, e2⟩ := I.lstM hB
  refine PySem.P.add_list e e2 ?_ (by rw [List.size_toArray, List.size_toArray]; omega)
  have ea : its.toArray ++ its2.toArray = (its ++ its2).toArray := by simp
  rw [ea]
  exact ⟨.ref _, _, I.lnew (t' := s.toks) (r.append r2) (by rw [List.length_append]; omega), rfl, q _ I.fresh⟩
/-- a list times an int (a negative one is nothing) -/
def rRep : R2 := fun x y H Q => ∃ l k xs, x = .ref l ∧ y = .int k ∧ H l = some (.lst xs) ∧ -(2 ^ 63) ≤ k ∧ k < 2 ^ 63 ∧ xs.length * k.toNat ≤ sizeLine ∧
  ∀ p, H p = none → Q (.ref p) (upd H p (.lst (List.replicate k.toNat xs).flatten))
theorem len_rep {α : Type} (xs : List α) (k : Nat) : (List.replicate k xs).flatten.length = k * xs.length := by
  induction k with
  | zero => simp
  | succ k ih => rw [List.replicate_succ, List.flatten_cons, List.length_append, ih, Nat.succ_mul, Nat.add_comm]
theorem op_rep : OpR X (binaryOp .Mult) rRep := by
  intro pins s σ H x y v u Q I rx ry h
  obtain ⟨l, k, xs, rfl, rfl, hH, h1, h2, hz, q⟩ := h
  cases rx
  obtain ⟨t, rfl⟩ := ry
  obtain ⟨z, its, n, r, hl, e⟩ := I.lstM hH
  have hlen : its.toArray.size * k.toNat ≤ sizeLine := by rw [List.size_toArray, ← hl]; exact hz
  have hcap : ¬ its.toArray.size * k.toNat > (2 ^ 63 - 1) / 8 := by
    have : (sizeLine : Nat) ≤ (2 ^ 63 - 1) / 8 := by decide
    omega
  have hfit : ¬ (!Builtin.List.listFitsIndex k) = true := by
    rw [fitsIndex_both h1 h2]
    exact Bool.false_ne_true
  have hlong : ¬ Builtin.List.listTooLong (its.toArray.size * k.toNat) = true := by
    rw [notLongL hlen]
    exact Bool.false_ne_true
  have hnew : List.foldl (fun x1 x2 => x1 ++ x2) #[] (List.replicate (if its.toArray.isEmpty = true then 0 else k.toNat) its.toArray) = (List.replicate k.toNat its).flatten.toArray := by
    have f0 : ∀ m : Nat, List.foldl (fun x1 x2 => x1 ++ x2) #[] (List.replicate m its.toArray) = (List.replicate m its).flatten.toArray := fun m => by
      have := foldl_rep its m []
      rw [List.nil_append] at this
      exact this
    rw [f0]
    cases its with
    | nil => simp
    | cons a r' => rw [if_neg (by simp)]
  refine wpAny_binaryOp_repeat_ref (T := "list") (U := "int") (by decide) ⟨_, e, rfl⟩ (fun s' => typeIs_int s' k t) noFill_list_mul F.fills_int_mul F.slot_int_rmul repeat_list F.slot_int_index.lookup
    (call_meets F.slot_int_rmul (typeIs_int s k t) F.entry_int_rmul (F.args_int_rmul_2 _ _) (int___rmul___int_list k t l its.toArray n)
      ⟨e, rfl, ⟨_, e, rfl⟩, call_meets F.slot_list_mul ⟨_, e, rfl⟩ F.entry_list_mul (F.args_list_mul_2 _ _) (AutoListH.list___mul___list_int_3 l its.toArray n k t hfit hcap hlong) ⟨e, ?_⟩⟩)
  rw [hnew]
  exact ⟨.ref _, _, I.lnew (t' := s.toks) (r.rep k.toNat) (by rw [len_rep, Nat.mul_comm]; exact hz), rfl, q _ I.fresh⟩

/-! ### del xs[i] -/
end

/-! ### xs[a:b] = ys -/
section
variable {prog : Program} {w : World} {A : Around} {E : Value → Shared → Prop} {s : Shared}
set_option maxRecDepth 100000 in
end

section
variable {X : Cx}
end
end L2

namespace Att
open PySem PySem.W PySem.Calls PyProof.Rows

/-! ### the script -/
theorem ints_of_wellAll {P : Params} {h : Heap} : ∀ (ns : List Int) (vs : List Value), WellAll P h vs (ns.map WData.int) → IntsAre vs ns := by
  intro ns
  induction ns with
  | nil =>
    intro vs w
    rw [List.map_nil] at w
    cases w
    exact .nil
  | cons n ns ih =>
    intro vs w
    rw [List.map_cons] at w
    cases w with
    | cons a b =>
      cases a
      exact .cons _ _ (ih _ b)

theorem script_of {l : OpenLaw} {n : Nat} (hn : l.most = some n) {P : Params} {h : Heap} {args : List WData} {vals : List Value}
    (hpre : l.row.toRowW.claim.pre args = true) (hwl : WellAll P h vals args) :
    ∃ a vs ns, vals = [Value.ref a] ∧ args = [WData.list (ns.map WData.int)] ∧ h.get? a = some { cls := .type "list", data := .seq vs.toArray } ∧ IntsAre vs ns ∧ ns.length ≤ n := by
  have hsh : WShape.hasAll [] args [.list .int] = true := (pre_splitW hpre).1
  have hc : l.pre.holds [] { args := args } = true := (pre_splitW hpre).2
  obtain ⟨d, r, rfl, h1, h2⟩ := hasAllW_cons hsh
  obtain rfl := hasAllW_nil h2
  obtain ⟨xs, rfl, h3⟩ := hasW_list h1
  obtain ⟨ns, rfl⟩ := items_int h3
  have hlen : ns.length ≤ n := by
    unfold OpenLaw.pre at hc
    have h4 : (WTm.not (.lt (.lit (.int (n : Int))) (.len (.arg 0)))).holds [] { args := [.list (ns.map .int)] } = true := by
      have h4 := (holds_andW hc).1
      rw [hn] at h4
      exact h4
    have h5 := condW_of h4 (w_not (w_lt w_lit (w_len_list (w_arg rfl))))
    rw [List.length_map] at h5
    refine Nat.le_of_not_lt fun q => ?_
    have q' : (n : Int) < ((ns.length : Nat) : Int) := by omega
    first
      | (rw [decide_eq_true q'] at h5; exact absurd h5 (by decide))
      | (simp at h5; omega)
  cases hwl with
  | cons w1 w2 =>
    cases w2
    cases w1 with
    | list ho hall => exact ⟨_, _, ns, rfl, rfl, ho, ints_of_wellAll ns _ hall, hlen⟩

theorem post_true (l : OpenLaw) (args : List WData) : l.row.toRowW.claim.post args (.bool true) args = true :=
  postW_of (r := l.row.toRowW) (X := (true == true))
    (show WShape.has [] (.bool true) .bool = true by first | rfl | decide | simp [WShape.has, WShape.arms, WShape.armsAll])
    (show (WTm.eq .res (.lit (.bool true))).value [] { args := args, res := some (.bool true), after := args } = some (.bool (true == true)) from w_eq_bool (w_res rfl) w_lit) rfl

/-! ### the attachment: holds_open's last premise (the goal 'hc' behind k_head) from a wpAny of the law's body -/
/-- the same from a codeAny of the CALL (for a layer whose function contracts speak of calls) -/
theorem attach_call {l : OpenLaw} {n : Nat} {q : Program} {loose : List Str} {XP : (Str → Option Value) → Heap → Prop} {YP : World → Heap → Prop} {d : DefRec}
    (hn : l.most = some n) (hdf : d.params.defaults = [])
    (call : ∀ (w : World) (s₀ s₁ : Shared) (mg mb : Str → Option Value) (fa : Addr) (o : Obj) (pm cd doc : Value) (a : Addr) (vs : List Value) (ns : List Int),
      Ground q loose [] XP w s₀ mg mb s₁.heap → YP w s₁.heap →
      s₁.heap.get? fa = some o → o.data = .func (docDef d.name d.params d.body d.scope pm cd doc) → s₁.heap.CodeRec cd d.name → mg d.name = some (.ref fa) →
      s₁.heap.get? a = some { cls := .type "list", data := .seq vs.toArray } → IntsAre vs ns → ns.length ≤ n → s₁.gens = #[] →
      codeAny (model l.prog w) callerA (.call (.ref fa) ⟨[.ref a], []⟩) (fun r s' => r = .ok (.ret (.bool true)) ∧ OldK s₁.heap s'.heap ∧ s'.os = s₁.os ∧ AllBare s'.gens) s₁) :
    WalkO q loose XP YP l.row.toRowW d [] (fun f vs => PySem.call f vs) := by
  intro w s₀ s₁ mg mb G Y fa o pm cd doc dV kV ho hd hcd hD hmg hg args vals as hpre hlay hrd hwl hlo
  obtain rfl : dV = .none := Dflts.none hD hdf
  obtain rfl : kV = .none := Dflts.noKw hD
  obtain ⟨a, vs, ns, rfl, rfl, hobj, hints, hlen⟩ := script_of hn hpre hwl
  refine enter_call (codeAny_mono (call w s₀ s₁ mg mb fa o pm cd doc a vs ns G Y ho (fd_plain hd) hcd hmg hobj hints hlen hg) fun r s' hq => ?_)
  obtain ⟨rfl, h2, h3, h4⟩ := hq
  exact ⟨.inl ⟨.bool true, .bool true, [], rfl, fun _ => rfl, .bool true, post_true l _, fun _ => ⟨List.Pairwise.nil, fun _ hm => (nomatch hm)⟩⟩, h2, h3, h4⟩

/-! ### rules over ANY heap (no ledger) from facts about the written part K: the library's own take a ledger (News) for what they write -/
section
variable {prog : Program} {w : World} {A : Around} {E : Value → Shared → Prop} {s : Shared} {K : Frag}

/-! the whole heap as the ledger: makes every rule that writes through a ledger a rule over any heap -/
def noObjs (h : Heap) : Heap := { h with objs := #[] }
def ledger (h : Heap) (L d : Addr) : List (Addr × Obj) := (List.range h.objs.size).filterMap fun a => if a = L ∨ a = d then none else (h.get? a).map fun o => (a, o)
end
end Att

namespace L2
open PySem PySem.Spec PyProof.Rows

theorem vals_ints : ∀ {vs : List Value} {ns : List Int}, IntsAre vs ns → Vals (ns.map V.int) vs
  | _, _, .nil => .nil
  | _, _, .cons n t h => .cons ⟨t, rfl⟩ (vals_ints h)

/-- nothing is tracked but the script, known to the object (or it is an object of the module) -/
def Only (H : Hp) : Prop := ∀ b, H b = none ∨ ∃ o xs, H b = some (.frz o (.lst xs))

/-- THE HEAD: the law's promise, at the heap behind the top. F, the promise of the law's def, may use that base is part of the heap (so K.In base, base.Ns mainGlobals mg stand in Mod) -/
theorem law_call {P : Program} {w : World} {K : PySem.W.Frag} {mg mb : Str → Option Value} {CX : CXT} {k : Nat} {fa a : Addr} {fd : FuncData} {x : Str} {sp : Sp} {s₁ : Shared} {vs : List Value} {ns : List Int}
    (KX : K.In s₁.heap) (hns : s₁.heap.Ns mainGlobals mg) (hb : s₁.heap.Ns builtinsNs mb) (hbb : ∀ x : Str, x ≠ "__name__" → mb x = bootBuiltins x) (hlim : s₁.heap.NoLimit) (hg : s₁.gens = #[])
    (ha : s₁.heap.get? a = some { cls := .type "list", data := .seq vs.toArray }) (hi : IntsAre vs ns) (hl : ns.length ≤ sizeLine) (hr : Room k callerA)
    (F : ∀ base : Heap, K.In base → base.Ns mainGlobals mg → FnOk P w K mg base CX k fa fd [x] sp) (hbind : ∀ (s : Shared) (u : Value), BindsTo s fd ⟨[u], []⟩ [(x, u)])
    (hsp : ∀ H : Hp, Only H → SqL K H a (ns.map V.int) → sp [.ref a] H (fun v _ => v = .bl true) fun _ _ _ => False)
    (hCX : ∀ H e s', CX [] H s₁ (fun _ _ _ => False) e s' → False) :
    codeAny (model P w) callerA (.call (.ref fa) ⟨[.ref a], []⟩) (fun r s' => r = .ok (.ret (.bool true)) ∧ OldK s₁.heap s'.heap ∧ s'.os = s₁.os ∧ AllBare s'.gens) s₁ := by
  have rv := vals_ints hi
  have lenV := hi.length
  -- from an abstract heap in which nothing but the script may be tracked
  have core : ∀ H : Hp, Only H → SqL K H a (ns.map V.int) → HOk P w H s₁.heap → (∀ b, H b ≠ none → b = a) → (H a ≠ none → K.lookup a = none) →
      codeAny (model P w) callerA (.call (.ref fa) ⟨[.ref a], []⟩) (fun r s' => r = .ok (.ret (.bool true)) ∧ OldK s₁.heap s'.heap ∧ s'.os = s₁.os ∧ AllBare s'.gens) s₁ := by
    intro H hO hS hok hA hK
    have base_of : ∀ {b : Addr} {o : Obj}, s₁.heap.get? b = some o → H b = none → (hidT s₁.heap H).get? b = some o := fun e n => hidT_get e n
    have noA : ∀ {b : Addr} {o : Obj} {es : Array DictEntry} {ep : Nat}, s₁.heap.get? b = some o → o.data = .dict es ep → H b = none := fun {b o es ep} e d => by
      cases q : H b with
      | none => rfl
      | some u =>
        have e' : b = a := hA b (by rw [q]; simp)
        subst e'
        rw [ha] at e; cases e
        have d' : Data.seq vs.toArray _ = Data.dict es ep := d
        cases d'
    have nsK : ∀ {b : Addr} {m : Str → Option Value}, s₁.heap.Ns b m → (hidT s₁.heap H).Ns b m := fun {b m} ⟨o, es, ep, e, d, r⟩ => ⟨o, es, ep, base_of e (noA e d), d, r⟩
    have hKb : K.In (hidT s₁.heap H) := fun b o e => base_of (KX b o e) (by
      cases q : H b with
      | none => rfl
      | some u =>
        have e' : b = a := hA b (by rw [q]; simp)
        subst e'
        rw [hK (by rw [q]; simp)] at e; cases e)
    have hM : Mod K mg (hidT s₁.heap H) := ⟨hKb, nsK hns, ⟨mb, nsK hb, hbb⟩, let ⟨mc, h1, h2⟩ := hlim; ⟨mc, nsK h1, h2⟩⟩
    have e0 : Env0 P w K mg (hidT s₁.heap H) callerA [] s₁ H := ⟨rfl, hM, fun b o e => of_hidT e, Nat.le_of_eq (hidT_size _ _), trivial, fun b hb => absurd (show b ∈ ([] : List Addr) from hb) (by simp), hok, .of_eq hg⟩
    refine codeAny_mono ((F _ hKb (nsK hns)).run callerA [] s₁ H ⟨[.ref a], []⟩ [.ref a] [.ref a] _ _ hr e0 (hbind s₁ (.ref a)) (.cons rfl .nil) (hsp H hO hS)) fun r s' h => ?_
    cases r with
    | error e => exact (hCX H e s' h).elim
    | ok fl =>
      cases fl with
      | next => exact False.elim h
      | brk => exact False.elim h
      | cont => exact False.elim h
      | ret u =>
        obtain ⟨v, H', os, bare, un, hok', r', q⟩ := h
        have q' : v = .bl true := q
        subst q'
        obtain rfl : u = Value.bool true := r'
        refine ⟨rfl, OldK.of_keep fun b o e => ?_, os, bare⟩
        cases q : H b with
        | none => exact un.keep b o e q (by intro z; exact absurd (show b ∈ ([] : List Addr) from z) (by simp)) (by simp)
        | some u =>
          rcases hO b with z | ⟨ob, xs, z⟩
          · rw [q] at z; cases z
          · have z2 := un.frzs b ob _ z
            obtain ⟨e1, _⟩ := hok b _ z
            obtain ⟨e2, _⟩ := hok' b _ z2
            rw [e] at e1; cases e1
            exact e2
  cases hk : K.lookup a with
  | some o =>
    -- the script is one of the module's own objects
    have e := KX a o hk
    rw [ha] at e
    cases e
    refine core (fun _ => none) (fun _ => .inl rfl) (.inr ⟨_, vs.toArray, _, hk, rfl, rfl, rfl, by rw [List.size_toArray, lenV]; exact hl, by simpa using rv⟩) (fun b u z => by have z' : (none : Option HO) = some u := z; cases z') (fun b z => absurd rfl z) fun z => absurd rfl z
  | none =>
    refine core (fun b => if b = a then some (.frz { cls := .type "list", data := .seq vs.toArray } (.lst (ns.map V.int))) else none) (fun b => ?_) (.inl (.inr ⟨{ cls := .type "list", data := .seq vs.toArray }, if_pos rfl⟩)) (fun b u z => ?_) (fun b z => ?_) fun _ => hk
    · by_cases hb : b = a
      · exact .inr ⟨_, _, if_pos hb⟩
      · exact .inl (if_neg hb)
    · by_cases hb : b = a
      · have z' := (if_pos hb).symm.trans z
        cases z'
        subst hb
        exact ⟨ha, by rw [List.length_map]; exact hl, vs, _, rv, ha⟩
      · have z' := (if_neg hb).symm.trans z
        cases z'
    · by_cases hb : b = a
      · exact hb
      · exact absurd (if_neg hb) z
end L2

namespace L2
open PySem PySem.Spec PyProof.Rows

abbrev KOf {K : PySem.W.Frag} {h : Heap} (_ : K.In h) : PySem.W.Frag := K

/-- the goal that k_head leaves (case hc), from the law's promise. F gives the function object fd (K's own) once, then the promise over every base -/
theorem walk_of {l : PySem.W.OpenLaw} {n k : Nat} {q : Program} {loose : List Str} {XP : (Str → Option Value) → Heap → Prop} {YP : World → Heap → Prop} {d : DefRec} {K : Params → PySem.W.Frag} {CX : World → CXT} {sp : World → Sp} {x : Str}
    (hn : l.most = some n) (hn2 : n ≤ sizeLine) (hdf : d.params.defaults = []) (hr : Room k callerA)
    (hY : ∀ (w : World) (h : Heap), YP w h → (K w.params).In h)
    (F : ∀ (w : World) (mg : Str → Option Value) (fa : Addr) (h : Heap), (K w.params).In h → h.Ns mainGlobals mg → mg d.name = some (.ref fa) →
      ∃ fd : FuncData, (∀ (s : Shared) (u : Value), BindsTo s fd ⟨[u], []⟩ [(x, u)]) ∧
        ∀ base : Heap, (K w.params).In base → base.Ns mainGlobals mg → FnOk l.prog w (K w.params) mg base (CX w) k fa fd [x] (sp w))
    (hsp : ∀ (w : World) (H : Hp) (a : Addr) (ns : List Int), ns.length ≤ n → Only H → SqL (K w.params) H a (ns.map V.int) → sp w [.ref a] H (fun v _ => v = .bl true) fun _ _ _ => False)
    (hCX : ∀ (w : World) (H : Hp) (s : Shared) (e : Value) (s' : Shared), CX w [] H s (fun _ _ _ => False) e s' → False) :
    PySem.W.WalkO q loose XP YP l.row.toRowW d [] (fun f vs => PySem.call f vs) := by
  refine Att.attach_call hn hdf fun w s₀ s₁ mg mb fa o pm cd doc a vs ns G Y ho hd hcd hmg hobj hints hlen hg => ?_
  have KX := hY w _ Y
  obtain ⟨fd, hb, hF⟩ := F w mg fa _ KX G.T.g hmg
  exact law_call KX G.T.g G.T.b G.T.builtins G.T.nolimit hg hobj hints (Nat.le_trans hlen hn2) hr hF hb (fun H hO hS => hsp w H a ns hlen hO hS) fun H e s' => hCX w H s₁ e s'
end L2

/-! SHORT WORDS over the layer: a def of the text, its body, what a loop and a test want. -/
namespace L2
open PySem PySem.Spec PyProof.Rows

/-! ### the text by places -/
/-- the j-th statement of a class's body -/
def inClass (s : Stmt) (j : Nat) : Stmt := match s with
  | .ClassDef _ _ _ body _ _ _ _ _ _ _ => body.getD j (.Pass ⟨0, 0, 0, 0⟩)
  | _ => .Pass ⟨0, 0, 0, 0⟩
def defArgs (s : Stmt) : Arguments := match s with
  | .FunctionDef _ a _ _ _ _ _ _ _ _ => a
  | _ => { posonlyargs := [], args := [], vararg := none, kwonlyargs := [], kw_defaults := [], kwarg := none, defaults := [] }
def defBody (s : Stmt) : List Stmt := match s with
  | .FunctionDef _ _ b _ _ _ _ _ _ _ => b
  | _ => []
def defScope (s : Stmt) : Scope := match s with
  | .FunctionDef _ _ _ _ _ _ sc _ _ _ => sc
  | _ => { kind := .function, names := [], isGenerator := false, isCoroutine := false }

/-! ### no exception leaves a def -/
abbrev CX0 : CXT := fun _ _ _ _ _ _ => False
abbrev E0 : XK := fun _ _ _ => False
/-! ### a def (or method) of the text as it stands behind the top -/
structure Fun (K : PySem.W.Frag) (x qual : Str) (st : Stmt) (f : Addr) (fd : FuncData) : Prop where
  ex : ∃ (oc : Value) (od : Option Addr) (kV doc pm : Value) (an : Option Addr) (cdv ct : Value) (osl : Array (Option Value)),
    fd = PySem.W.fnOf x qual (defArgs st) (defBody st) (defScope st) .none kV doc pm an cdv ct ∧ K.lookup f = some ⟨oc, od, .func fd, osl⟩ ∧ PySem.W.codeIn K cdv qual = true
  kp : PySem.W.keepIn K (.ref f) = true
section
variable {P : Program} {w : World} {K : PySem.W.Frag} {mg : Str → Option Value} {base : Heap}
/-- THE RULE for a def: its body as a term of rules, and the reading of that term -/
theorem Fun.ok {x qual : Str} {st : Stmt} {f : Addr} {fd : FuncData} {N ps : List Str} {k : Nat} {sp : Sp} (F : Fun K x qual st f fd) (S : FnScope N ps (defScope st)) (len : ∀ vs H Q E, sp vs H Q E → vs.length = ps.length)
    (hbody : ∀ (cdv : Value) (A : Around) (outer : List Env) (s : Shared) (H : Hp) (vs : List V) (Q : VK) (E : XK), Room k (A.deeper (envOfC qual (defScope st) s.heap.objs.size f cdv)) → sp vs H Q E →
      ∃ t, PSs (cxOf CX0 P w K mg base N qual (defScope st) f cdv A outer s H E).nox (defBody st) t ∧ t { nx := fun _ H' => Q .non H', rt := Q } (start N vs) H) : FnOk P w K mg base CX0 (k + 1) f fd ps sp := by
  obtain ⟨oc, od, kV, doc, pm, an, cdv, ct, osl, rfl, lk, hcd⟩ := F.ex
  refine fn_of lk hcd S len fun A outer s H vs Q E hr hsp => ?_
  obtain ⟨t, h, q⟩ := hbody cdv A outer s H vs Q E hr hsp
  exact ⟨t, h.nox, q⟩
/-- how its arguments bind (no defaults): h is «fun _ _ _ _ _ _ us hl => match us, hl with | [_, _], _ => rfl», one _ a parameter -/
theorem Fun.binds {x qual : Str} {st : Stmt} {f : Addr} {fd : FuncData} {ps : List Str} (F : Fun K x qual st f fd)
    (h : ∀ (kV doc pm : Value) (an : Option Addr) (cdv ct : Value) (us : List Value), us.length = ps.length → bindArgs (PySem.W.fnOf x qual (defArgs st) (defBody st) (defScope st) .none kV doc pm an cdv ct) ⟨us, []⟩ = pure (ps.zip us)) : Binds K fd ps [] := by
  obtain ⟨oc, od, kV, doc, pm, an, cdv, ct, osl, rfl, lk, hcd⟩ := F.ex
  exact .all (h kV doc pm an cdv ct)
theorem fun_mk {x qual : Str} {st : Stmt} {f : Addr} {oc : Value} {od an : Option Addr} {osl : Array (Option Value)} {kV doc pm cdv ct : Value} (l : K.lookup f = some ⟨oc, od, .func (PySem.W.fnOf x qual (defArgs st) (defBody st) (defScope st) .none kV doc pm an cdv ct), osl⟩)
    (c : PySem.W.codeIn K cdv qual = true) (k : PySem.W.keepIn K (.ref f) = true) : Fun K x qual st f (PySem.W.fnOf x qual (defArgs st) (defBody st) (defScope st) .none kV doc pm an cdv ct) := ⟨⟨oc, od, kV, doc, pm, an, cdv, ct, osl, rfl, l, c⟩, k⟩
end
/-! ### expressions in short: the name that stands in the i-th slot -/
section
variable {X : Cx}
end

/-! ### tests -/
theorem iteF {A B : Prop} (h : B) : if false = true then A else B := by
  rw [if_neg Bool.false_ne_true]
  exact h
theorem iteT {A B : Prop} (h : A) : if true = true then A else B := by
  rw [if_pos rfl]
  exact h
/-! ### heaps -/
/-- all that was tracked is as it was -/
def Same (H H' : Hp) : Prop := ∀ b o, H b = some o → H' b = some o
theorem Same.refl (H : Hp) : Same H H := fun _ _ h => h
theorem Same.trans {H H1 H2 : Hp} (a : Same H H1) (b : Same H1 H2) : Same H H2 := fun c o h => b c o (a c o h)
theorem Same.free {H H' : Hp} (e : Same H H') {l : Addr} (h : H' l = Option.none) : H l = Option.none := by
  cases q : H l with
  | none => rfl
  | some o =>
    rw [e l o q] at h
    cases h
theorem Same.seq {K : PySem.W.Frag} {H H' : Hp} {a : Addr} {xs : List V} (e : Same H H') (h : SqL K H a xs) : SqL K H' a xs := by
  rcases h with (h | ⟨o, h⟩) | h
  · exact .inl (.inl (e _ _ h))
  · exact .inl (.inr ⟨o, e _ _ h⟩)
  · exact .inr h

/-! ### a dict's pairs: keys that differ -/
section
variable {κ : Type} [DecidableEq κ]
end
end L2
set_option Elab.async false
set_option linter.all false
set_option maxRecDepth 100000
namespace L2
open PySem PySem.Spec PyProof.Rows
/-! ### tuples: times, plus with an empty left side -/
theorem noFill_tuple_mul : fillsNumberSlot (.type "tuple") "mul" = pure false :=
  PySem.fillsNumberSlot_seq (id := "tuple.__mul__") (r := some (.builtin "tuple.__rmul__")) F.slot_tuple_mul.lookup (by decide +kernel) F.slot_tuple_rmul.lookup (by decide +kernel)
theorem repeat_tuple : seqRepeat? (.type "tuple") = pure (some (.builtin "tuple.__mul__")) := by
  unfold seqRepeat?
  rw [PySem.seqSlot_of (T := "tuple") (name := "__mul__") (id := "tuple.__mul__") F.slot_tuple_mul.lookup (by decide +kernel), PySem.seqSlot_of (T := "tuple") (name := "__rmul__") (id := "tuple.__rmul__") F.slot_tuple_rmul.lookup (by decide +kernel)]
  rfl
theorem int_rmul_tuple_any (a : Int) (t : Tok) (l : Addr) (items : Array Value) (n : Nat) (d : Option Addr) (sl : Array (Option Value)) :
    Meets (Builtin.«int.__rmul__» ⟨[.int a t, .ref l], []⟩) (fun _ R s => s.heap.get? l = some { cls := .type "tuple", dict := d, data := .seq items n, slots := sl } ∧ R (.ok (.ret Value.notImplemented)) s) :=
  .of_wp fun prog w A R s h => by obtain ⟨hp, g, d, tk, os⟩ := s; obtain ⟨hl, h⟩ := h; wp_walk; exact ⟨_, rfl, h⟩
theorem tuple_mul_one (l : Addr) (items : Array Value) (n : Nat) (d : Option Addr) (sl : Array (Option Value)) (u : Tok) :
    Meets (Builtin.«tuple.__mul__» ⟨[.ref l, .int 1 u], []⟩) (fun _ R s => s.heap.get? l = some { cls := .type "tuple", dict := d, data := .seq items n, slots := sl } ∧ R (.ok (.ret (Value.ref l))) s) :=
  .of_wp fun prog w A R s h => by
    obtain ⟨hp, g, d, tk, os⟩ := s; obtain ⟨hl, h⟩ := h
    have f1 := AutoSeq1.idx_int
    wp_walk using wpAny_loadPart' hl
    exact ⟨_, rfl, h⟩
theorem tuple_mul_more (l : Addr) (items : Array Value) (n : Nat) (d : Option Addr) (sl : Array (Option Value)) (x : Int) (u : Tok) (h0 : items.isEmpty = false) (h1 : 1 < x) (h2 : x < 2 ^ 63) (hz : items.size * x.toNat ≤ sizeLine) :
    Meets (Builtin.«tuple.__mul__» ⟨[.ref l, .int x u], []⟩) (fun _ R s => s.heap.get? l = some { cls := .type "tuple", dict := d, data := .seq items n, slots := sl } ∧
      R (.ok (.ret (Value.ref s.heap.objs.size))) { s with heap := s.heap.push { cls := Value.type "tuple", data := Data.seq (List.foldl (fun x1 x2 => x1 ++ x2) #[] (List.replicate x.toNat items)) } }) :=
  .of_wp fun prog w A R s h => by
    obtain ⟨hp, g, d, tk, os⟩ := s; obtain ⟨hl, h⟩ := h
    have f1 := AutoSeq1.idx_int
    have ex : (items.size : Int) * x = ((items.size * x.toNat : Nat) : Int) := by
      rw [Int.natCast_mul, Int.toNat_of_nonneg (by omega)]
    have hl2 : (sizeLine : Nat) ≤ (2 ^ 63 - 1) / 8 := by decide
    have e1 : ¬ (decide (x < -2 ^ 63) || decide (x ≥ 2 ^ 63)) = true := by simp; omega
    have e2 : ¬ (items.isEmpty || x == 1) = true := by rw [h0]; simp; omega
    have e3 : ¬ (decide (x ≤ 0) || items.isEmpty) = true := by rw [h0]; simp; omega
    have e4 : ¬ ((items.size : Int) * x > (2 ^ 63 - 1) / 8) := by rw [ex]; omega
    have e5 : ¬ Builtin.Tuple.tupleTooMany ((items.size : Int) * x) = true := by
      rw [ex]; intro hq
      have h3 : ((items.size * x.toNat : Nat) : Int) > (sizeLine : Int) := of_decide_eq_true hq
      generalize items.size * x.toNat = N at *
      omega
    have fl : ∀ k : Nat, (List.foldl (fun x1 x2 => x1 ++ x2) #[] (List.replicate k items)).size = items.size * k := by
      intro k
      have : ∀ (k : Nat) (acc : Array Value), (List.foldl (fun x1 x2 => x1 ++ x2) acc (List.replicate k items)).size = acc.size + items.size * k := by
        intro k
        induction k with
        | zero => intro acc; simp
        | succ k ih => intro acc; rw [List.replicate_succ, List.foldl_cons, ih, Array.size_append, Nat.mul_succ]; omega
      rw [this]; simp
    wp_walk using wpAny_loadPart' hl
    rw [if_neg e1]
    wp_walk using wpAny_loadPart' hl
    rw [if_neg e2]
    wp_walk using wpAny_loadPart' hl
    rw [if_neg e3]
    wp_walk using wpAny_loadPart' hl
    rw [if_neg e4]
    wp_walk using wpAny_loadPart' hl
    rw [if_neg e5]
    wp_walk using wpAny_loadPart' hl
    exact ⟨_, rfl, h⟩
section
variable {X : Cx}
def rRepT (K : PySem.W.Frag) : R2 := fun x y H Q => ∃ a k xs, x = .ref a ∧ y = .int k ∧ SqT K H a xs ∧ xs ≠ [] ∧ 1 ≤ k ∧ k < 2 ^ 63 ∧ xs.length * k.toNat ≤ sizeLine ∧
  (k = 1 → Q (.ref a) H) ∧ (1 < k → ∀ p, H p = none → Q (.ref p) (upd H p (.tup (List.replicate k.toNat xs).flatten)))
theorem op_repT : OpR X (binaryOp .Mult) (rRepT X.K) := by
  intro pins s σ H x y v u Q I rx ry h
  obtain ⟨a, k, xs, rfl, rfl, hx, hne, h1, h2, hz, q1, q2⟩ := h
  cases rx
  obtain ⟨t, rfl⟩ := ry
  obtain ⟨its, r, ht, hl⟩ := I.tuple hx
  have hlen := r.length
  obtain ⟨⟨cls, dd, data, sl⟩, ho, hc, n, hd⟩ := id ht
  simp only at hc hd
  subst hc hd
  refine wpAny_binaryOp_repeat_ref (T := "tuple") (U := "int") (by decide) ⟨_, ho, rfl⟩ (fun s' => typeIs_int s' k t) noFill_tuple_mul F.fills_int_mul F.slot_int_rmul repeat_tuple F.slot_int_index.lookup
    (call_meets F.slot_int_rmul (typeIs_int s k t) F.entry_int_rmul (F.args_int_rmul_2 _ _) (int_rmul_tuple_any k t a its.toArray n dd sl) ⟨ho, rfl, ⟨_, ho, rfl⟩, ?_⟩)
  by_cases hk : k = 1
  · subst hk
    exact call_meets F.slot_tuple_mul ⟨_, ho, rfl⟩ F.entry_tuple_mul (F.args_tuple_mul_2 _ _) (tuple_mul_one a its.toArray n dd sl t) ⟨ho, ⟨.ref a, H, I, rfl, q1 rfl⟩⟩
  · have h0 : its.toArray.isEmpty = false := by
      cases its with
      | nil =>
        cases xs with
        | nil => exact absurd rfl hne
        | cons _ _ => simp at hlen
      | cons _ _ => simp
    refine call_meets F.slot_tuple_mul ⟨_, ho, rfl⟩ F.entry_tuple_mul (F.args_tuple_mul_2 _ _)
      (tuple_mul_more a its.toArray n dd sl k t h0 (by omega) h2 (by rw [List.size_toArray, ← hlen]; exact hz)) ⟨ho, ?_⟩
    have hnew : List.foldl (fun x1 x2 => x1 ++ x2) #[] (List.replicate k.toNat its.toArray) = (List.replicate k.toNat its).flatten.toArray := by
      have := foldl_rep its k.toNat []
      rw [List.nil_append] at this
      exact this
    rw [hnew]
    refine ⟨.ref s.heap.objs.size, _, I.laid (t' := s.toks) (o := .tup (List.replicate k.toNat xs).flatten) (fun b ob q => Heap.get?_push_of_some _ q) (Nat.le_refl _) ?_, rfl, q2 (by omega) _ (I.hok.fresh (Nat.le_refl _))⟩
    exact ⟨by rw [len_rep, Nat.mul_comm]; exact hz, _, r.rep k.toNat, IsTup.new _ _⟩
/-- t + u, any two tuples -/
def rCatA (K : PySem.W.Frag) : R2 := fun x y H Q => ∃ a b xs ys, x = .ref a ∧ y = .ref b ∧ SqT K H a xs ∧ SqT K H b ys ∧ xs.length + ys.length ≤ sizeLine ∧
  (xs = [] → Q (.ref b) H) ∧ (xs ≠ [] → ys = [] → Q (.ref a) H) ∧ (xs ≠ [] → ys ≠ [] → ∀ p, H p = none → Q (.ref p) (upd H p (.tup (xs ++ ys))))
theorem op_catA : OpR X (binaryOp .Add) (rCatA X.K) := by
  intro pins s σ H x y v u Q I rx ry h
  obtain ⟨a, b, xs, ys, rfl, rfl, ha, hb, hz, q0, q1, q2⟩ := h
  by_cases hx : xs = []
  · cases rx
    cases ry
    subst hx
    obtain ⟨its, r1, p1, _⟩ := I.tuple ha
    obtain ⟨its2, r2, p2, _⟩ := I.tuple hb
    obtain ⟨⟨cls, dd, data, sl⟩, ho, hc, n, hd⟩ := id p1
    obtain ⟨⟨cls2, dd2, data2, sl2⟩, ho2, hc2, n2, hd2⟩ := id p2
    simp only at hc hd hc2 hd2
    subst hc hd hc2 hd2
    have e0 : its.toArray.isEmpty = true := by
      have := (r1.nil_iff.mpr rfl)
      rw [this]; rfl
    exact concat_meets ⟨_, ho, rfl⟩ ⟨_, ho2, rfl⟩ noFill_tuple_add seq_tuple_add PySem.F.slot_tuple_add PySem.F.entry_tuple_add (PySem.F.args_tuple_add_2 _ _)
      (tuple_addW0 a b its.toArray its2.toArray n n2 dd dd2 sl sl2 e0) ⟨ho, ho2, ⟨.ref b, H, I, rfl, q0 rfl⟩⟩
  · exact op_catT pins s σ H (.ref a) (.ref b) v u Q I rx ry ⟨a, b, xs, ys, rfl, rfl, ha, hb, hx, hz, q1 hx, q2 hx⟩
/-! ### isinstance, by the kinds' names -/
def kitB (a T : String) : Bool := a == T || (a == "bool" && T == "int")
theorem kit_b (K : PySem.W.Frag) {a T : String} (ha : a ∈ ["int", "bool", "str", "NoneType", "list", "tuple", "dict"]) (hT : T ∈ ["int", "bool", "str", "list", "tuple", "dict"]) :
    PySem.W.kitOne K (.type a) (.type T) = some (kitB a T) := by
  simp only [List.mem_cons, List.not_mem_nil, or_false] at ha hT
  rcases ha with rfl | rfl | rfl | rfl | rfl | rfl | rfl <;> rcases hT with rfl | rfl | rfl | rfl | rfl | rfl <;> with_unfolding_all rfl
/-- the name of a value's type -/
inductive TyN (K : PySem.W.Frag) (H : Hp) : V → String → Prop where
  | non : TyN K H .non "NoneType"
  | bl (x : Bool) : TyN K H (.bl x) "bool"
  | int (i : Int) : TyN K H (.int i) "int"
  | str (x : Str) : TyN K H (.str x) "str"
  | lst {a : Addr} {xs : List V} (e : H a = some (.lst xs)) : TyN K H (.ref a) "list"
  | tup {a : Addr} {xs : List V} (e : H a = some (.tup xs)) : TyN K H (.ref a) "tuple"
  | dK {a : Addr} {kvs : List (Key × V)} (e : H a = some (.dK kvs)) : TyN K H (.ref a) "dict"
theorem TyN.of {K : PySem.W.Frag} {H : Hp} {x : V} {a : String} (h : TyN K H x a) : TyOf K H x (.type a) ∧ a ∈ ["int", "bool", "str", "NoneType", "list", "tuple", "dict"] := by
  cases h with
  | non => exact ⟨.non, by simp⟩
  | bl x => exact ⟨.bl x, by simp⟩
  | int i => exact ⟨.int i, by simp⟩
  | str x => exact ⟨.str x, by simp⟩
  | lst e => exact ⟨.lst e, by simp⟩
  | tup e => exact ⟨.tup e, by simp⟩
  | dK e => exact ⟨.dK e, by simp⟩
def rIsi (K : PySem.W.Frag) : List V → Hp → VK → Prop := fun xs H Q => ∃ x T a, xs = [x, .ty T] ∧ T ∈ ["int", "bool", "str", "list", "tuple", "dict"] ∧ TyN K H x a ∧ Q (.bl (kitB a T)) H
theorem call_isi : CallR X (.builtin "isinstance") (rIsi X.K) := by
  intro pins s σ H xs us Q I r h
  obtain ⟨x, T, a, rfl, hT, ty, q⟩ := h
  obtain ⟨u1, u2, rfl, r1, r2⟩ := vals2 r
  cases (show u2 = Value.type T from r2)
  obtain ⟨t1, t2⟩ := ty.of
  exact isinst_ok I r1 t1 (kit_b X.K t2 hT) fun tk => ⟨.bl _, H, I.tok tk, rfl, q⟩
end
end L2

set_option Elab.async false
set_option linter.all false
set_option maxRecDepth 100000
namespace L2
open PySem PySem.Spec PyProof.Rows
/-! ### a list comprehension over one name -/
theorem closure_go {env : Env} : ∀ (l : List (Str × NameKind)) (cs₀ : List (Str × Addr)), (∀ x ∈ l, x.2 = .free → ∃ c, env.cells.lookup x.1 = some c) →
    ∃ cs, (forIn l cs₀ (fun (x : Str × NameKind) (r : List (Str × Addr)) => if (x.2 == NameKind.free) = true then (do let c ← cellOf env x.1; pure (ForInStep.yield ((x.1, c) :: r))) else pure (ForInStep.yield r)) : Sem (List (Str × Addr))) = pure cs ∧
      (∀ y c, cs.lookup y = some c → cs₀.lookup y = some c ∨ env.cells.lookup y = some c) ∧ (∀ y c, cs₀.lookup y = some c → ∃ c', cs.lookup y = some c') ∧ (∀ x ∈ l, x.2 = .free → ∃ c, cs.lookup x.1 = some c)
  | [], cs₀, _ => ⟨cs₀, by simp, fun _ _ h => .inl h, fun _ c h => ⟨c, h⟩, fun _ h => nomatch h⟩
  | (n, k) :: l, cs₀, h => by
    by_cases hk : k = .free
    · obtain ⟨c, hc⟩ := h (n, k) List.mem_cons_self hk
      obtain ⟨cs, e, h1, h2, h3⟩ := closure_go l ((n, c) :: cs₀) fun x hx => h x (List.mem_cons_of_mem _ hx)
      refine ⟨cs, ?_, fun y c' hy => ?_, fun y c' hy => ?_, fun x hx hxk => ?_⟩
      · subst hk
        have ec : cellOf env n = pure c := by unfold cellOf; rw [hc]
        rw [List.forIn_cons]
        simp only [beq_self_eq_true, if_true, ec, pure_bind]
        exact e
      · rcases h1 y c' hy with z | z
        · rw [List.lookup_cons] at z
          split at z
          · rename_i hyn
            have : y = n := by simpa using hyn
            subst this
            cases z
            exact .inr hc
          · exact .inl z
        · exact .inr z
      · by_cases hyn : y = n
        · subst hyn
          exact h2 y c (by simp [List.lookup_cons])
        · refine h2 y c' ?_
          rw [List.lookup_cons]
          have : (y == n) = false := by simpa using hyn
          rw [this]
          exact hy
      · rcases List.mem_cons.mp hx with rfl | hx
        · exact h2 n c (by simp [List.lookup_cons])
        · exact h3 x hx hxk
    · obtain ⟨cs, e, h1, h2, h3⟩ := closure_go l cs₀ fun x hx => h x (List.mem_cons_of_mem _ hx)
      refine ⟨cs, ?_, h1, h2, fun x hx hxk => ?_⟩
      · rw [List.forIn_cons]
        have : (k == NameKind.free) = false := by simpa using hk
        simp only [this, Bool.false_eq_true, if_false, pure_bind]
        exact e
      · rcases List.mem_cons.mp hx with rfl | hx
        · exact absurd hxk hk
        · exact h3 x hx hxk
theorem closure_of {scope : Scope} {env : Env} (h : ∀ x ∈ scope.names, x.2 = .free → ∃ c, env.cells.lookup x.1 = some c) :
    ∃ cl, closureFor scope env = pure cl ∧ (∀ y c, cl.lookup y = some c → env.cells.lookup y = some c) ∧ (∀ x ∈ scope.names, x.2 = .free → ∃ c, cl.lookup x.1 = some c) := by
  obtain ⟨cs, e, h1, _, h3⟩ := closure_go (env := env) scope.names [] h
  refine ⟨cs, ?_, fun y c hy => (h1 y c hy).elim (fun z => nomatch z) id, h3⟩
  exact (congrArg (fun t : Sem (List (Str × Addr)) => t >>= fun r => pure r) e).trans (pure_bind ..)
theorem relabel_inv {env : Env} : ∀ {names : List (Str × NameKind)} {x : Str} {k : NameKind}, (∀ y ∈ names, y.2 ≠ .cell) →
    (names.map fun (n, k) => if (k == NameKind.free && env.scope.kind == .function && env.kindOf n == some .cell) then (n, NameKind.cell) else (n, k)).lookup x = some k →
    (k = .cell ∨ k = .free) ∧ names.lookup x = some .free ∨ names.lookup x = some k
  | [], _, _, _, h => by simp at h
  | (n, j) :: r, x, k, hc, h => by
    have ih := @relabel_inv env r x k (fun y hy => hc y (List.mem_cons_of_mem _ hy))
    have h : List.lookup x ((if (j == NameKind.free && env.scope.kind == .function && env.kindOf n == some .cell) = true then (n, NameKind.cell) else (n, j)) :: _) = some k := h
    cases hx : x == n with
    | true =>
      by_cases hq : (j == NameKind.free && env.scope.kind == .function && env.kindOf n == some .cell) = true
      · rw [if_pos hq] at h
        simp only [List.lookup_cons, hx] at h
        cases h
        have hj : j = .free := by simp at hq; exact hq.1.1
        subst hj
        exact .inl ⟨.inl rfl, by simp [List.lookup_cons, hx]⟩
      · rw [if_neg hq] at h
        simp only [List.lookup_cons, hx] at h
        exact .inr (by simp only [List.lookup_cons, hx]; exact h)
    | false =>
      have h' : (r.map fun (n, k) => if (k == NameKind.free && env.scope.kind == .function && env.kindOf n == some .cell) then (n, NameKind.cell) else (n, k)).lookup x = some k := by
        by_cases hq : (j == NameKind.free && env.scope.kind == .function && env.kindOf n == some .cell) = true
        · rw [if_pos hq] at h; simpa only [List.lookup_cons, hx] using h
        · rw [if_neg hq] at h; simpa only [List.lookup_cons, hx] using h
      simp only [List.lookup_cons, hx]
      exact ih h'
/-- one turn of a comprehension, whatever its target -/
theorem compLoop_own {prog : Program} {w : World} {A : Around} {R : Result → Shared → Prop} {s : Shared} {elt target iter : Expr} {ifs : List Expr} {scope : Scope} {pos : Pos} {it acc : Value} {env : Env} (I : Nat → Shared → Prop)
    (turn : ∀ n s, I n s → wpAny (model prog w) A (pyNext it) (fun r s₁ => match r with
      | none => R (.ok .next) s₁
      | some v => wpAny (model prog w) A (letOwnedTupleGo target it v) (fun _ s₁' => wpAny (model prog w) A (assign target env v) (fun _ s₂ =>
          wpAny (model prog w) A (forIn ifs true fun c r => if r = true then do let ok ← isTrue c env (eval c env); pure (ForInStep.yield ok) else pure (ForInStep.yield r)) (fun ok s₃ =>
            if ok = true then wpAny (model prog w) A (eval elt env) (fun x s₄ =>
              wpAny (model prog w) A (call (.builtin "list.append") [acc, x]) (fun _ s₅ => ∃ m, m < n ∧ I m s₅) (fun _ _ => False) s₄) (fun _ _ => False) s₃
            else ∃ m, m < n ∧ I m s₃) (fun _ _ => False) s₂) (fun _ _ => False) s₁') (fun _ _ => False) s₁) (fun _ _ => False) s)
    (n : Nat) (h : I n s) :
    codeAny (model prog w) A (.compLoop (.ListComp elt [⟨target, iter, ifs, 0⟩] scope pos) 0 it acc env) R s := by
  refine codeAny_loop rfl I (fun n s hI => ?_) n h
  show wpAny _ A ((compTurn (.ListComp elt [⟨target, iter, ifs, 0⟩] scope pos) 0 it acc env).onRaise (fun x => do noteFrame x env; theTreesLotGoes x)) _ _ s
  refine wpAny_noted ?_
  rw [compTurn_list]
  refine wpAny_bind (wpAny_standAt (wpAny_bind (wpAny_mono (turn n s hI) (fun r s₁ h₁ => ?_) fun _ _ h' => h'.elim)))
  cases r with
  | none => exact wpAny_pure h₁
  | some v =>
    refine wpAny_bind (wpAny_mono h₁ (fun _ s₁' h₁' => ?_) fun _ _ h' => h'.elim)
    refine wpAny_bind (wpAny_mono h₁' (fun _ s₂ h₂ => wpAny_bind (wpAny_mono h₂ (fun ok s₃ h₃ => ?_) fun _ _ h' => h'.elim)) fun _ _ h' => h'.elim)
    cases ok with
    | false => exact wpAny_pure ⟨rfl, h₃⟩
    | true =>
      exact wpAny_bind (wpAny_bind (wpAny_mono h₃ (fun x s₄ h₄ => wpAny_bind (wpAny_mono h₄ (fun _ s₅ h₅ => wpAny_pure (wpAny_pure ⟨rfl, h₅⟩)) fun _ _ h' => h'.elim)) fun _ _ h' => h'.elim))
/-- the block's context -/
abbrev cxComp (X : Cx) (N' : List Str) (scope : Scope) (cl : List (Str × Addr)) (C : Addr) (s2 : Shared) (H2 : Hp) (fp : List Addr) : Cx :=
  { X with N := N', s₀ := s2, H₀ := H2, env := compEnvC scope cl C X.env, outer := X.stack, stack := X.stack, ex := fp, fn := fun _ => false, pn := [], xe := fun _ _ => False }
/-- the outer names' values in the block -/
def pick (ix : List (Option Nat)) (σ : St) : St := ix.map fun o => o.bind fun j => (σ[j]?).join
theorem pick_get {ix : List (Option Nat)} {σ : St} {i : Nat} {v : V} (h : (pick ix σ)[i]? = some (some v)) : ∃ j, ix[i]? = some (some j) ∧ σ[j]? = some (some v) := by
  unfold pick at h
  rw [List.getElem?_map] at h
  cases e : ix[i]? with
  | none => rw [e] at h; cases h
  | some o =>
    rw [e] at h
    have h : (o.bind fun j => (σ[j]?).join) = some v := Option.some.inj h
    cases o with
    | none => cases h
    | some j =>
      refine ⟨j, rfl, ?_⟩
      have h : (σ[j]?).join = some v := h
      cases e2 : σ[j]? with
      | none => rw [e2] at h; cases h
      | some q => rw [e2] at h; rw [show q = some v from h]
/-- what the text must say of the block -/
structure CompOk (X : Cx) (N' : List Str) (scope : Scope) (ix : List (Option Nat)) : Prop where
  kind : scope.kind = .function
  nocell : ∀ y ∈ scope.names, y.2 ≠ .cell
  names : ∀ y ∈ scope.names, y.2 = .local → scope.names.lookup y.1 = some .local
  free : ∀ y ∈ scope.names, y.2 = .free → X.env.kindOf y.1 = some .cell ∨ X.env.kindOf y.1 = some .free
  nd : N'.Nodup
  len : ix.length = N'.length
  ixs : ∀ (i j : Nat) (x : Str), ix[i]? = some (some j) → N'[i]? = some x → X.N[j]? = some x ∧ scope.names.lookup x ≠ some .local
theorem mem_of_lookup' {κ β : Type} [BEq κ] [LawfulBEq κ] {l : List (κ × β)} {x : κ} {k : β} (h : l.lookup x = some k) : (x, k) ∈ l := by
  induction l with
  | nil => cases h
  | cons p l ih =>
    obtain ⟨a, b⟩ := p
    rw [List.lookup_cons] at h
    split at h
    · rename_i e
      have : x = a := by simpa using e
      subst this
      cases h
      exact List.mem_cons_self
    · exact List.mem_cons_of_mem _ (ih h)
section
variable {X : Cx} {pins : List (Addr × Obj)} {σ : St} {H2 : Hp} {s2 : Shared} {N' : List Str} {scope : Scope} {ix : List (Option Nat)} {fp : List Addr} {cl : List (Str × Addr)}
theorem comp_start (O : CompOk X N' scope ix) (I : Inv X pins σ H2 s2) (fpo : ∀ b ∈ fp, FpOk X pins H2 b) (fpl : ∀ b ∈ fp, b < s2.heap.objs.size)
    (cls : ∀ y c, cl.lookup y = some c → X.env.cells.lookup y = some c) (clh : ∀ x ∈ scope.names, x.2 = .free → ∃ c, cl.lookup x.1 = some c) {h1 : Heap} {D C : Addr} {t' : Nat} (hD : D = s2.heap.objs.size) (hC : C = s2.heap.objs.size + 1)
    {m : Str → Option Value} (hns : h1.Ns C m) (hk : ∀ b o, s2.heap.get? b = some o → h1.get? b = some o) {nn : Nat} (hl : h1.get? D = some { cls := .type "list", data := .seq #[] nn }) :
    Inv (cxComp X N' scope cl C s2 H2 fp) [] (pick ix σ) (upd H2 D (.lst [])) { s2 with heap := h1, toks := t' } := by
  subst hD hC
  have lookF : ∀ x, scope.names.lookup x = some .free → ∃ c, cl.lookup x = some c := fun x hx => clh (x, .free) (mem_of_lookup' hx) rfl
  have inF : ∀ {x : Str} {k : NameKind}, (relabel scope X.env).names.lookup x = some k → (k = .cell ∨ k = .free) → scope.names.lookup x = some .free := fun {x k} h hk => by
    rcases relabel_inv O.nocell h with ⟨_, z⟩ | z
    · exact z
    · rcases hk with rfl | rfl
      · exact absurd rfl (O.nocell _ (mem_of_lookup' z))
      · exact z
  refine ⟨⟨I.ok.mod, O.kind, I.ok.glob, I.ok.blt, Nat.le_succ _, fun x y c e1 e2 => I.ok.inj x y c (cls x c e1) (cls y c e2), fun x hx => ?_, fun _ _ z => absurd z (by simp), I.ok.hd, I.ok.frames, .inl rfl, fun b hb => ⟨Nat.ne_of_lt (Nat.lt_succ_of_lt (fpl b hb)), fun x c e => (fpo b hb).2.2.2.2.1 x c (cls x c e)⟩,
    I.bs, Nat.le_trans I.ok.bsz I.sz, fun b o e hb => ?_, fun b hb z => ?_, I.stack, I.stkFree⟩, rfl, I.bare, Un.laid hk (Nat.le_refl _) (I.hok.fresh (Nat.le_refl _)), ⟨m, hns, fun i x v e1 e2 e3 => ?_⟩, fun x c e => ?_, ?_, fun x c e => ?_, fun p hp => absurd hp (by simp), ?_, ?_⟩
  · have hx : (relabel scope X.env).names.lookup x = some .cell ∨ (relabel scope X.env).names.lookup x = some .free := hx
    rcases hx with hx | hx
    · exact lookF x (inF hx (.inl rfl))
    · exact lookF x (inF hx (.inr rfl))
  · rcases (fpo b hb).2.2.2.1 with z | z
    · exact I.ok.noex b o e z
    · exact absurd (Nat.lt_of_lt_of_le (Heap.lt_size e) (Nat.le_trans I.ok.bsz z)) (Nat.lt_irrefl _)
  · obtain ⟨_, f1, f2, _⟩ := fpo b hb
    rcases List.mem_cons.mp (I.stkSub b z) with q | q
    · exact f1 q
    · exact f2 q
  · obtain ⟨j, q1, q2⟩ := pick_get e2
    obtain ⟨q3, q4⟩ := O.ixs i j x q1 e1
    have hF : scope.names.lookup x = some .free := by
      have e3 : (relabel scope X.env).names.lookup x = some .local ∨ (relabel scope X.env).names.lookup x = some .cell ∨ (relabel scope X.env).names.lookup x = some .free := e3
      rcases e3 with z | z | z
      · rcases relabel_inv O.nocell z with ⟨q, _⟩ | q
        · rcases q with q | q <;> cases q
        · exact absurd q q4
      · exact inF z (.inl rfl)
      · exact inF z (.inr rfl)
    obtain ⟨c, hc⟩ := lookF x hF
    have kF := O.free (x, .free) (mem_of_lookup' hF) rfl
    obtain ⟨mX, hnX, hlX⟩ := I.loc
    obtain ⟨u, ru, lk⟩ := hlX j x v q3 q2 (kF.elim (fun z => .inr (.inl z)) fun z => .inr (.inr z))
    refine ⟨u, ru, ?_⟩
    rcases lk with ⟨z, _⟩ | ⟨_, c', hc', hcell⟩
    · have z : X.env.kindOf x = some .local := z
      rcases kF with y | y <;> (rw [show X.env.kindOf x = _ from y] at z; cases z)
    · rw [cls x c hc] at hc'
      cases hc'
      refine .inr ⟨?_, c, hc, hcell.keeps hk⟩
      rcases e3 with z | z | z
      · have z : (relabel scope X.env).names.lookup x = some .local := z
        rcases relabel_inv O.nocell z with ⟨q, _⟩ | q
        · rcases q with q | q <;> cases q
        · exact absurd q q4
      · exact .inl z
      · exact .inr z
  · obtain ⟨v, z⟩ := I.cell x c (cls x c e)
    exact ⟨v, z.keeps hk⟩
  · show upd H2 s2.heap.objs.size (.lst []) (s2.heap.objs.size + 1) = none
    rw [upd_ne (Nat.succ_ne_self _)]
    exact I.hok.fresh (Nat.le_succ _)
  · obtain ⟨v, z⟩ := I.cell x c (cls x c e)
    show upd H2 s2.heap.objs.size (.lst []) c = none
    rw [upd_ne (Nat.ne_of_lt z.lt)]
    exact I.freeC x c (cls x c e)
  · exact I.hok.laid hk (Nat.le_refl _) ⟨Nat.zero_le _, [], nn, .nil, hl⟩
  · show (pick ix σ).length = N'.length
    unfold pick
    rw [List.length_map]
    exact O.len
end

/-- the tests of a comprehension -/
def PIf (X : Cx) (ifs : List Expr) (tc : TT) : Prop :=
  ∀ (pins : List (Addr × Obj)) (s : Shared) (σ : St) (H : Hp) (Q : Bool → Hp → Prop), Inv X pins σ H s → tc σ H Q →
    wpAny (model X.prog X.w) X.A (forIn ifs true fun c r => if r = true then do let ok ← isTrue c X.env (eval c X.env); pure (ForInStep.yield ok) else pure (ForInStep.yield r)) (TP X pins σ Q) X.xe s
def tTrue : TT := fun _ H Q => Q true H
theorem pif_nil {X : Cx} : PIf X [] tTrue := fun _ _ _ H _ I h => wpAny_tests_nil ⟨H, I, h⟩
theorem pif_one {X : Cx} {c : Expr} {tc : TT} (h : PT X c tc) : PIf X [c] tc := fun pins s σ H Q I hw => wpAny_tests_one (h pins s σ H Q I hw)
/-- what the turns of a comprehension want: W by the turn and a measure; D is the new list -/
def compW (J : It) (D : Addr) (σ0 : St) (i0 : Nat) (tc : TT) (te : TE) (Q : VK) (W : Nat → Nat → Hp → Prop) : Prop :=
  ∀ i m H, W i m H → (J.stop i H ∧ Q (.ref D) H) ∨ (J.go i H ∧ ∀ x H', J.yld i H x H' → tc (σ0.set i0 (some x)) H' fun b H3 =>
    if b = true then te (σ0.set i0 (some x)) H3 fun y H4 => ∃ ys, H4 D = some (.lst ys) ∧ ys.length < sizeLine ∧ ∃ m', m' < m ∧ W (i + 1) m' (upd H4 D (.lst (ys ++ [y])))
    else ∃ m', m' < m ∧ W (i + 1) m' H3)
def tComp (wi : TI) (ix : List (Option Nat)) (i0 : Nat) (tc : TT) (te : TE) : TE := fun σ H Q => wi σ H fun J H1 => ∀ D, H1 D = none →
  ∃ W : Nat → Nat → Hp → Prop, (∃ m, W 0 m (upd H1 D (.lst []))) ∧ compW J D (pick ix σ) i0 tc te Q W
section
variable {X : Cx} {pins : List (Addr × Obj)} {σ : St} {H2 : Hp} {s2 : Shared} {N' : List Str} {scope : Scope} {ix : List (Option Nat)} {fp : List Addr} {cl : List (Str × Addr)}
theorem comp_back {C : Addr} {pins' : List (Addr × Obj)} {σ' : St} {H' : Hp} {s4 : Shared} (I : Inv X pins σ H2 s2) (fpo : ∀ b ∈ fp, FpOk X pins H2 b) (J : Inv (cxComp X N' scope cl C s2 H2 fp) pins' σ' H' s4) : Inv X pins σ H' s4 :=
  I.call' (ch := fp) J.os J.base J.hok J.bare fun b hb => ⟨(fpo b hb).2.2.2.1, (fpo b hb).2.1, (fpo b hb).2.2.2.2.1, (fpo b hb).2.2.2.2.2⟩
theorem comp_letgo {σ' : St} {H' : Hp} {s4 : Shared} {h' : Heap} {C : Addr} (I : Inv X pins σ H2 s2) (hC : s2.heap.objs.size ≤ C) (I4 : Inv X pins σ' H' s4) (hf : H' C = none) (hs : Heap.SameBut C s4.heap h') : Inv X pins σ' H' { s4 with heap := h' } := by
  refine I4.turned (it := C) (t' := s4.toks) (fun b o hb e => (hs.2 b hb).trans e) hf (Nat.ne_of_gt (Nat.lt_of_lt_of_le I.lt hC)) (.inr (Nat.le_trans I.sz hC)) (fun x c e z => ?_) fun p hp z => ?_
  · obtain ⟨v, q⟩ := I.cell x c e
    exact absurd (Nat.lt_of_lt_of_le q.lt (z ▸ hC)) (Nat.lt_irrefl _)
  · exact absurd (Nat.lt_of_lt_of_le (Heap.lt_size (I.pin p hp).1) (z ▸ hC)) (Nat.lt_irrefl _)
theorem comp_run {E : Value → Shared → Prop} {elt iter : Expr} {ifs : List Expr} {t : Str} {tp pos : Pos} {i0 : Nat} {tc : TT} {te : TE} {J : It} {it : Addr} {tn : Nat → Heap → Prop} {Q : VK} {RR : Value → Addr → Result → Shared → Prop}
    (O : CompOk X N' scope ix) (hc : X.calm = true) (hi0 : N'[i0]? = some t) (hx0 : ix[i0]? = some none) (htl : scope.names.lookup t = some .local) (I : Inv X pins σ H2 s2) (T : Turn X.prog X.w X.K (.Name t tp) J fp it tn) (st : tn 0 s2.heap) (fpo : ∀ b ∈ fp, FpOk X pins H2 b)
    (cls : ∀ y c, cl.lookup y = some c → X.env.cells.lookup y = some c) (clh : ∀ x ∈ scope.names, x.2 = .free → ∃ c, cl.lookup x.1 = some c)
    (hif : ∀ cl C s2 H2 fp, PIf (cxComp X N' scope cl C s2 H2 fp) ifs tc) (helt : ∀ cl C s2 H2 fp, PE (cxComp X N' scope cl C s2 H2 fp) elt te)
    {W : Nat → Nat → Hp → Prop} (w0 : ∃ m, W 0 m (upd H2 s2.heap.objs.size (.lst []))) (hW : compW J s2.heap.objs.size (pick ix σ) i0 tc te Q W)
    (hRR : ∀ C H' s', s2.heap.objs.size ≤ C → Inv (cxComp X N' scope cl C s2 H2 fp) [] (pick ix σ) H' s' → Q (.ref s2.heap.objs.size) H' → RR (.ref s2.heap.objs.size) C (.ok .next) s') :
    wpAny (model X.prog X.w) X.A (newList []) (fun acc s₃ => wpAny (model X.prog X.w) X.A (newFunctionEnv scope X.env.globals cl [] X.env.qual none .none (some X.env)) (fun cenv s₄ =>
      codeAny (model X.prog X.w) X.A (.compStart (.ListComp elt [⟨.Name t tp, iter, ifs, 0⟩] scope pos) 0 (.ref it) acc { cenv with scope := relabel scope X.env }) (RR acc cenv.locals) s₄) E s₃) E s2 := by
  refine wpAny_newObj_type (wpAny_newFunctionEnv O.nocell (by intro y hy; simp at hy) (fun h₁ hns₁ hsb₁ => ?_) O.kind)
  have fpl : ∀ b ∈ fp, b < s2.heap.objs.size := fun b hb => by
    obtain ⟨o, e, _⟩ := T.obj _ _ st b hb
    exact Heap.lt_size e
  have hCs : (s2.heap.push { cls := .type "list", dict := none, data := .seq ([] : List Value).toArray }).objs.size = s2.heap.objs.size + 1 := Heap.size_push ..
  have old : ∀ b o, s2.heap.get? b = some o → h₁.get? b = some o := fun b o e => by
    refine hsb₁.extBut b o ?_ (Heap.get?_push_of_some _ (Heap.get?_push_of_some _ e))
    exact Nat.ne_of_lt (by rw [hCs]; exact Nat.lt_succ_of_lt (Heap.lt_size e))
  have hacc : h₁.get? s2.heap.objs.size = some { cls := .type "list", data := .seq #[] } := by
    refine hsb₁.extBut _ _ ?_ (Heap.get?_push_of_some _ (Heap.get?_push_size _ rfl))
    exact Nat.ne_of_lt (by rw [hCs]; exact Nat.lt_succ_self _)
  obtain ⟨m0, w0⟩ := w0
  generalize hCg : (s2.heap.push { cls := .type "list", dict := none, data := .seq ([] : List Value).toArray }).objs.size = C at hns₁ hsb₁ hCs ⊢
  have I1 : Inv (cxComp X N' scope cl C s2 H2 fp) [] (pick ix σ) (upd H2 s2.heap.objs.size (.lst [])) { s2 with heap := h₁, toks := s2.toks + ([] : List (Str × Value)).length } :=
    comp_start O I fpo fpl cls clh rfl hCs hns₁ old hacc
  have st1 : tn 0 h₁ := T.keep _ _ _ st fun b _ o e => old b o e
  have fr1 : ∀ b ∈ fp, upd H2 s2.heap.objs.size (.lst []) b = none := fun b hb => by
    rw [upd_ne (Nat.ne_of_lt (fpl b hb))]
    exact (fpo b hb).1
  have loop : ∀ s₃ : Shared, s₃ = { s2 with heap := h₁, toks := s2.toks + ([] : List (Str × Value)).length } →
      codeAny (model X.prog X.w) X.A (.compLoop (.ListComp elt [⟨.Name t tp, iter, ifs, 0⟩] scope pos) 0 (.ref it) (.ref s2.heap.objs.size) (compEnvC scope cl C X.env)) (RR (.ref s2.heap.objs.size) C) s₃ := by
    rintro s₃ rfl
    have stat : ∀ {H' : Hp}, (∀ b ∈ fp, H' b = none) → ∀ b ∈ fp, FpOk (cxComp X N' scope cl C s2 H2 fp) [] H' b := fun {H'} hn b hb => by
      obtain ⟨_, f1, f2, _, f4, _⟩ := fpo b hb
      refine ⟨hn b hb, Nat.ne_of_lt (by show b < C; rw [hCs]; exact Nat.lt_succ_of_lt (fpl b hb)), fun z => ?_, .inl hb, fun x c e => f4 x c (cls x c e), fun p hp => absurd hp (by simp)⟩
      rcases List.mem_cons.mp (I.stkSub b z) with q | q
      · exact f1 q
      · exact f2 q
    refine compLoop_own (fun n s' => ∃ i H', Inv (cxComp X N' scope cl C s2 H2 fp) [] (pick ix σ) H' s' ∧ tn i s'.heap ∧ (∀ b ∈ fp, H' b = none) ∧ W i n H') ?_ m0 ⟨0, _, I1, st1, fr1, w0⟩
    rintro n s3 ⟨i, H3, I3, st3, fr3, w3⟩
    rcases hW i n H3 w3 with ⟨stop, q⟩ | ⟨go, step⟩
    · refine thn (T.done (cxComp X N' scope cl C s2 H2 fp) rfl rfl rfl hc i [] s3 (pick ix σ) H3 (fun _ _ => False) I3 (stat fr3) st3 stop) fun r s4 ⟨hr, I4⟩ => ?_
      subst hr
      exact hRR C H3 s4 (by rw [hCs]; exact Nat.le_succ _) I4 q
    · refine thn (T.item (cxComp X N' scope cl C s2 H2 fp) rfl rfl rfl hc i [] s3 (pick ix σ) H3 (fun _ _ => False) I3 (stat fr3) st3 go) fun r s4 ⟨u, hr, h4⟩ => ?_
      subst hr
      refine thn h4 fun _ s5 ⟨x, H5, I5, r5, y5, st5, fr5⟩ => ?_
      have I5' := I5.pinned (stat fr5) (T.obj _ _ st5)
      have htl' : (relabel scope X.env).names.lookup t = some .local := lookup_relabel_local htl
      have again : ∀ {s7 : Shared} {H7 : Hp} {m' : Nat}, Inv (cxComp X N' scope cl C s2 H2 fp) ([] ++ pinsAt fp s5.heap) ((pick ix σ).set i0 (some x)) H7 s7 → m' < n → W (i + 1) m' H7 →
          ∃ m, m < n ∧ ∃ i H', Inv (cxComp X N' scope cl C s2 H2 fp) [] (pick ix σ) H' s7 ∧ tn i s7.heap ∧ (∀ b ∈ fp, H' b = none) ∧ W i m H' := fun {s7 H7 m'} I7 hm w7 => by
        refine ⟨m', hm, i + 1, H7, I7.unpinned.weak (by rw [List.length_set]) (fun k v e => ?_), T.keep _ _ _ st5 fun b hb o e => (I7.pin (b, o) (List.mem_append_right _ (List.mem_append_right _ (mem_pinsAt hb e)))).1, fun b hb => ?_, w7⟩
        · by_cases hk : k = i0
          · subst hk
            obtain ⟨j, q, _⟩ := pick_get e
            rw [hx0] at q
            cases q
          · rw [List.getElem?_set_ne (Ne.symm hk)]
            exact e
        · obtain ⟨o, e, d⟩ := T.obj _ _ st5 b hb
          exact (I7.pin (b, o) (List.mem_append_right _ (List.mem_append_right _ (mem_pinsAt hb e)))).2.1
      refine thn (pg_name (X := cxComp X N' scope cl C s2 H2 fp) (i := i0) O.nd hi0 (.inl htl') (.inr htl') _ s5 (pick ix σ) H5 x u (fun σ6 H6 => σ6 = (pick ix σ).set i0 (some x) ∧ H6 = H5) I5' r5 ⟨rfl, rfl⟩) fun _ s6 ⟨σ6, H6, I6, e6, e6'⟩ => ?_
      subst e6 e6'
      refine thn (hif cl C s2 H2 fp _ s6 _ H6 _ I6 (step x H6 y5)) fun ok s7 ⟨H7, I7, q7⟩ => ?_
      cases ok with
      | false =>
        rw [if_neg Bool.false_ne_true] at q7 ⊢
        obtain ⟨m', hm, w7⟩ := q7
        exact again I7 hm w7
      | true =>
        rw [if_pos rfl] at q7 ⊢
        refine thn (helt cl C s2 H2 fp _ s7 _ H7 _ I7 q7) fun y s8 ⟨vy, H8, I8, r8, ys, hD8, hz, m', hm, w8⟩ => ?_
        refine thn (mt_append (X := cxComp X N' scope cl C s2 H2 fp) _ s8 _ H8 (.ref s2.heap.objs.size) [vy] (.ref s2.heap.objs.size) [y] (fun _ H9 => H9 = upd H8 s2.heap.objs.size (.lst (ys ++ [vy]))) I8 rfl (.cons r8 .nil) ⟨_, ys, vy, rfl, rfl, hD8, hz, rfl⟩)
          fun _ s9 ⟨v9, H9, I9, r9, q9⟩ => ?_
        subst q9
        exact again I9 hm w8
  exact codeAny_compStart_list (loop _ rfl) (T.self _ 0 _ _ _ st1 (loop _ rfl))
/-- [elt for t in iter if c], as an expression -/
theorem pe_comp {elt iter : Expr} {ifs : List Expr} {t : Str} {tp pos : Pos} {i0 : Nat} {tc : TT} {te : TE} {wi : TI} (O : CompOk X N' scope ix) (hc : X.calm = true) (hi0 : N'[i0]? = some t) (hx0 : ix[i0]? = some none) (htl : scope.names.lookup t = some .local)
    (hi : PI X (.Name t tp) iter wi) (hif : ∀ cl C s2 H2 fp, PIf (cxComp X N' scope cl C s2 H2 fp) ifs tc) (helt : ∀ cl C s2 H2 fp, PE (cxComp X N' scope cl C s2 H2 fp) elt te) (hs : ∀ x, foldedSetIterable iter X.env x = pure x := by intro _; rfl) :
    PE X (.ListComp elt [⟨.Name t tp, iter, ifs, 0⟩] scope pos) (tComp wi ix i0 tc te) := by
  intro pins s σ H Q I h
  obtain ⟨cl, hcl, cls, clh⟩ := closure_of (scope := scope) (env := X.env) fun x hx hk => I.ok.has x.1 (O.free x hx hk)
  rw [eval_ListComp]
  refine wpAny_comprehension_free (use := none) rfl hs hcl O.kind O.names (thn (hi pins s σ H _ I h) fun v s1 h1 => thn h1 fun itv s2 h2 => ?_)
  obtain ⟨it, fp, tn, J, H2, e, I2, T, st2, f2, hR⟩ := h2
  subst e
  obtain ⟨W, w0, hW⟩ := hR s2.heap.objs.size (I2.hok.fresh (Nat.le_refl _))
  refine comp_run (RR := fun acc C => compPost (model X.prog X.w) X.A X.xe none (EP X pins σ Q) acc C) O hc hi0 hx0 htl I2 T st2 f2 cls clh hif helt w0 hW fun C H' s' hC J' q => ?_
  obtain ⟨m, hn, _⟩ := J'.loc
  refine ⟨m, hn, fun h' hs' => ⟨.ref s2.heap.objs.size, H', comp_letgo I2 hC (comp_back I2 f2 J') J'.free hs', rfl, q⟩⟩
end
end L2

set_option Elab.async false
set_option linter.all false
set_option maxRecDepth 100000
namespace L2
open PySem PySem.Spec PyProof.Rows
/-! ### a value stands for a datum -/
mutual
inductive Rep (K : PySem.W.Frag) (H : Hp) : V → PyData → Prop
  | non : Rep K H .non .none
  | bl (b : Bool) : Rep K H (.bl b) (.bool b)
  | int (i : Int) : Rep K H (.int i) (.int i)
  | str (x : Str) : Rep K H (.str x) (.str x)
  | lst {a : Addr} {xs : List V} {ds : List PyData} : SqL K H a xs → Reps K H xs ds → Rep K H (.ref a) (.list ds)
  | tup {a : Addr} {xs : List V} {ds : List PyData} : SqT K H a xs → Reps K H xs ds → Rep K H (.ref a) (.tuple ds)
inductive Reps (K : PySem.W.Frag) (H : Hp) : List V → List PyData → Prop
  | nil : Reps K H [] []
  | cons {x : V} {xs : List V} {d : PyData} {ds : List PyData} : Rep K H x d → Reps K H xs ds → Reps K H (x :: xs) (d :: ds)
end
section
variable {X : Cx} {pins : List (Addr × Obj)} {σ : St} {H : Hp} {s : Shared}
mutual
theorem Inv.reads (I : Inv X pins σ H s) : ∀ {x : V} {d : PyData}, Rep X.K H x d → ∀ {u : Value}, RelV x u → ∃ as, Reads s.heap u d as
  | _, _, .non, _, r => by cases r; exact ⟨_, .none⟩
  | _, _, .bl b, _, r => by cases r; exact ⟨_, .bool b⟩
  | _, _, .int i, _, r => by obtain ⟨t, rfl⟩ := r; exact ⟨_, .int i t⟩
  | _, _, .str x, _, r => by obtain ⟨t, rfl⟩ := r; exact ⟨_, .str x t⟩
  | _, _, .lst h rs, _, r => by
    cases r
    obtain ⟨its, rv, ⟨o, n, e, hc, _, hd⟩, _⟩ := I.list h
    obtain ⟨as, ra⟩ := Inv.readsAll I rs rv
    exact ⟨_, .list e hc hd (by rw [List.toList_toArray]; exact ra)⟩
  | _, _, .tup h rs, _, r => by
    cases r
    obtain ⟨its, rv, ⟨o, e, hc, n, hd⟩, _⟩ := I.tuple h
    obtain ⟨as, ra⟩ := Inv.readsAll I rs rv
    exact ⟨_, .tuple e hc hd (by rw [List.toList_toArray]; exact ra)⟩
theorem Inv.readsAll (I : Inv X pins σ H s) : ∀ {xs : List V} {ds : List PyData}, Reps X.K H xs ds → ∀ {us : List Value}, Vals xs us → ∃ as, ReadsAll s.heap us ds as
  | _, _, .nil, _, r => by cases r; exact ⟨_, .nil⟩
  | _, _, .cons h t, _, r => by
    cases r with
    | cons r1 r2 =>
      obtain ⟨as, ra⟩ := Inv.reads I h r1
      obtain ⟨bs, rb⟩ := Inv.readsAll I t r2
      exact ⟨_, .cons ra rb⟩
end
end
mutual
theorem Rep.keep {K : PySem.W.Frag} {H H' : Hp} (k : ∀ b o, H b = some o → H' b = some o) : ∀ {x : V} {d : PyData}, Rep K H x d → Rep K H' x d
  | _, _, .non => .non
  | _, _, .bl b => .bl b
  | _, _, .int i => .int i
  | _, _, .str x => .str x
  | _, _, .lst h rs => .lst (Same.seq k h) (Reps.keep k rs)
  | _, _, .tup h rs => .tup (by
      rcases h with (h | ⟨o, h⟩) | h
      · exact .inl (.inl (k _ _ h))
      · exact .inl (.inr ⟨o, k _ _ h⟩)
      · exact .inr h) (Reps.keep k rs)
theorem Reps.keep {K : PySem.W.Frag} {H H' : Hp} (k : ∀ b o, H b = some o → H' b = some o) : ∀ {xs : List V} {ds : List PyData}, Reps K H xs ds → Reps K H' xs ds
  | _, _, .nil => .nil
  | _, _, .cons h t => .cons (Rep.keep k h) (Reps.keep k t)
end
section
variable {X : Cx}
/-- == and != of data -/
def rEqD (K : PySem.W.Frag) : R2 := fun x y H Q => ∃ d e, Rep K H x d ∧ Rep K H y e ∧ SeqAt.shaped d = true ∧ SeqAt.shaped e = true ∧ Q (.bl (PyData.eqv d e)) H
def rNeD (K : PySem.W.Frag) : R2 := fun x y H Q => ∃ d e, Rep K H x d ∧ Rep K H y e ∧ SeqAt.shaped d = true ∧ SeqAt.shaped e = true ∧ Q (.bl (!PyData.eqv d e)) H
theorem op_eqD (hu : X.A.units + 64 < cLine) : OpR X (compareOp .Eq) (rEqD X.K) := by
  intro pins s σ H x y v u Q I rx ry h
  obtain ⟨d, e, r1, r2, h1, h2, q⟩ := h
  obtain ⟨as, ra⟩ := I.reads r1 rx
  obtain ⟨bs, rb⟩ := I.reads r2 ry
  exact eq_dataH ra rb h1 h2 hu ⟨.bl _, H, I, rfl, q⟩
theorem op_neD (hu : X.A.units + 64 < cLine) : OpR X (compareOp .NotEq) (rNeD X.K) := by
  intro pins s σ H x y v u Q I rx ry h
  obtain ⟨d, e, r1, r2, h1, h2, q⟩ := h
  obtain ⟨as, ra⟩ := I.reads r1 rx
  obtain ⟨bs, rb⟩ := I.reads r2 ry
  exact ne_dataH ra rb h1 h2 hu ⟨.bl _, H, I, rfl, q⟩
/-! ### several kinds at once -/
def rAddA (K : PySem.W.Frag) : R2 := fun x y H Q => rI0 (fun i j => .int (i + j)) x y H Q ∨ rCatA K x y H Q ∨ rCat x y H Q ∨ (∃ i j, x = .str i ∧ y = .str j ∧ i.length + j.length ≤ sizeLine ∧ Q (.str (i ++ j)) H)
theorem op_addA : OpR X (binaryOp .Add) (rAddA X.K) := op_add.or (op_catA.or (op_cat.or op_add_str))
def rMulA (K : PySem.W.Frag) : R2 := fun x y H Q => rI CMul (fun i j => .int (i * j)) x y H Q ∨ rRepT K x y H Q ∨ rRep x y H Q
theorem op_mulA : OpR X (binaryOp .Mult) (rMulA X.K) := op_mul.or (op_repT.or op_rep)
theorem sl_A : SlR X (fun x lo hi H Q => rSlL X.K x lo hi H Q ∨ rSlT X.K x lo hi H Q) := sl_list.or sl_tup
def rLenA (K : PySem.W.Frag) : List V → Hp → VK → Prop := fun xs H Q => (∃ p ys, xs = [.ref p] ∧ (SqL K H p ys ∨ SqT K H p ys) ∧ Q (.int ys.length) H) ∨ (∃ z, xs = [.str z] ∧ z.length ≤ sizeLine ∧ Q (.int z.length) H)
theorem call_lenA : CallR X (.builtin "len") (rLenA X.K) := call_len_seq.or call_len_str
/-- what is walked: a list, or a tuple -/
theorem pi_or {tg iter : Expr} {wi wi' : TI} (h : PI X tg iter wi) (h' : PI X tg iter wi') : PI X tg iter (fun σ H R => wi σ H R ∨ wi' σ H R) := by
  intro pins s σ H R I q
  rcases q with q | q
  · exact h pins s σ H R I q
  · exact h' pins s σ H R I q
def iSeq (K : PySem.W.Frag) (tl : TE) : TI := fun σ H R => iList K tl σ H R ∨ iTup K tl σ H R
theorem pi_seq {tg l : Expr} {tl : TE} (hl : PE X l tl) : PI X tg l (iSeq X.K tl) := pi_or (pi_list hl) (pi_tup hl)
/-! ### a def by its promise -/
structure Cal (P : Program) (w : World) (K : PySem.W.Frag) (mg : Str → Option Value) (base : Heap) (CX : CXT) (k : Nat) (x : Str) (ps : List Str) (sp : Sp) : Prop where
  ex : ∃ f fd, FnOk P w K mg base CX k f fd ps sp ∧ mg x = some (.ref f) ∧ PySem.W.keepIn K (.ref f) = true ∧ Binds K fd ps []
/-- a def at the text's top -/
structure FunAt (K : PySem.W.Frag) (x : Str) (st : Stmt) (f : Addr) (fd : FuncData) : Prop where
  ns : PySem.W.nsIn K mainGlobals x = some (some (.ref f))
  F : Fun K x x st f fd
end
/-! ### comprehensions: what the text must say, decided -/
def compOkB (sc : Scope) (N N' : List Str) (scope : Scope) (ix : List (Option Nat)) : Bool :=
  (match scope.kind with | .function => true | _ => false) && scope.names.all (fun y => y.2 != .cell) && scope.names.all (fun y => y.2 != .local || scope.names.lookup y.1 == some .local) &&
  scope.names.all (fun y => y.2 != .free || (sc.names.lookup y.1 == some .cell || sc.names.lookup y.1 == some .free)) && decide N'.Nodup && (ix.length == N'.length) &&
  (List.range ix.length).all fun i => match ix[i]?, N'[i]? with
    | some (some j), some x => N[j]? == some x && scope.names.lookup x != some .local
    | _, _ => true
theorem compOk_of {X : Cx} {N' : List Str} {scope : Scope} {ix : List (Option Nat)} (h : compOkB X.env.scope X.N N' scope ix = true) : CompOk X N' scope ix := by
  unfold compOkB at h
  simp only [Bool.and_eq_true] at h
  obtain ⟨⟨⟨⟨⟨⟨h1, h2⟩, h3⟩, h4⟩, h5⟩, h6⟩, h7⟩ := h
  refine ⟨?_, fun y hy => ?_, fun y hy hl => ?_, fun y hy hf => ?_, of_decide_eq_true h5, beq_iff_eq.mp h6, fun i j x e1 e2 => ?_⟩
  · cases e : scope.kind <;> rw [e] at h1 <;> first | rfl | cases h1
  · have := List.all_eq_true.mp h2 y hy
    simpa using this
  · have := List.all_eq_true.mp h3 y hy
    rw [hl] at this
    simpa using this
  · have := List.all_eq_true.mp h4 y hy
    rw [hf] at this
    have q : X.env.scope.names.lookup y.1 = some .cell ∨ X.env.scope.names.lookup y.1 = some .free := by simpa using this
    exact q
  · have hi : i < ix.length := (List.getElem?_eq_some_iff.mp e1).1
    have := List.all_eq_true.mp h7 i (List.mem_range.mpr hi)
    rw [e1, e2] at this
    simp only [Bool.and_eq_true] at this
    exact ⟨by simpa using this.1, by simpa using this.2⟩
/-- over a range whose element makes nothing and changes nothing but the list -/
theorem bb_str : bootBuiltins "str" = some (.type "str") := by decide +kernel
theorem bb_list : bootBuiltins "list" = some (.type "list") := by decide +kernel
theorem bb_tuple : bootBuiltins "tuple" = some (.type "tuple") := by decide +kernel
theorem bb_len : bootBuiltins "len" = some (.builtin "len") := by decide +kernel
theorem bb_min : bootBuiltins "min" = some (.builtin "min") := by decide +kernel
theorem bb_max : bootBuiltins "max" = some (.builtin "max") := by decide +kernel
end L2

set_option Elab.async false
set_option linter.all false
set_option maxRecDepth 100000
namespace L2
open PySem PySem.Spec PyProof.Rows
/-! ### an exception on its way: its record, and that it has no dict of its own -/
def TrD (h base : Heap) (e : Addr) (cls fl : Value) : Prop :=
  ∃ oe vs T oT ts, h.get? e = some oe ∧ (oe.cls = cls ∧ oe.dict = none) ∧ oe.data = .fields vs ∧ vs[1]? = some (.ref T) ∧ base.get? T = none ∧ T ≠ e ∧ h.get? T = some oT ∧ oT.data = .fields ts ∧ ts[3]? = some fl
def FlD (base : Heap) (l : List Env) (e : Addr) (cls fl : Value) (h : Heap) : Prop := base.StaysIn h ∧ base.get? e = none ∧ h.FunFrames base l ∧ TrD h base e cls fl
theorem dict_mapF (o : Obj) (f : Array Value → Array Value) : (o.mapFields f).dict = o.dict := by
  obtain ⟨c, d, dt, sl⟩ := o
  cases dt <;> rfl
section
variable {M : Model} {A : Around} {E : Value → Shared → Prop} {s : Shared}
/-- the entry that noteFrame adds -/
theorem entryD {base : Heap} {env : Env} {outer : List Env} {L e : Addr} {oe : Obj} {vs : Array Value} {head : Value} {had : Bool} {Q : Unit → Shared → Prop} (hfr : A.frames = some (env :: outer)) (hl : s.heap.FunFrames base (env :: outer)) (hf : env.frame = some L)
    (g1 : s.heap.get? e = some oe) (g2 : oe.dict = none) (g3 : base.StaysIn s.heap) (g4 : base.get? e = none) (g5 : oe.data = .fields vs) (g6 : 1 < vs.size)
    (h : ∀ h', FlD base (env :: outer) e oe.cls (rawInt L) h' → s.heap.UpToSlots h' → Q () { s with heap := h' }) :
    wpAny M A (do let a ← frameOf env; let pl ← entryPlaceOf L had; let b ← EntryCells.newEntry head a .none (rawInt L) .none pl; setField (.ref e) 1 b) Q E s := by
  have ne : ∀ b o, s.heap.get? b = some o → (∀ ws, o.data ≠ .fields ws) → b ≠ e := fun b o hb hn q => by
    rw [q, g1] at hb
    cases hb
    exact hn vs g5
  have nf : e ∉ (env :: outer).filterMap (·.frame) := fun m => by
    obtain ⟨_, o, ho, hn⟩ := hl.mem m
    exact ne e o ho hn rfl
  refine wpAny_bind (wpAny_frameOf_fun hfr hl hf fun h1 k1 => wpAny_bind (wpAny_entryPlaceOf fun pl isP => ?_))
  unfold EntryCells.newEntry newFields
  refine wpAny_bind (wpAny_newObj_type ?_ (isP.sizeOk5 _ _ _ _ _))
  generalize hN : ({ cls := .type "traceback", dict := none, data := .fields ([head, .ref L, .none, rawInt L, .none] ++ (if pl.isEmpty then List.replicate 6 Value.none else pl)).toArray } : Obj) = N
  have e1 : h1.get? e = some oe := (k1.2.1 e nf).trans g1
  have st : base.StaysIn h1 := fun b o q => (k1.2.1 b fun m => by rw [(hl.mem m).1] at q; cases q).trans (g3 b o q)
  have e2 := Heap.get?_push_of_some (h := h1) N e1
  have hT : h1.objs.size ≠ e := Nat.ne_of_gt (Heap.lt_size e1)
  have dd := Obj.data_mapFields g5 (·.setIfInBounds 1 (Value.ref h1.objs.size))
  refine wpAny_setField e2 g5 g6 (h _ ⟨fun b o q => ?_, g4, hl.of_keeps fun b o hb hn => ?_, _, _, h1.objs.size, N, _, Heap.get?_update_self _ e2 (Obj.isFreed_of_fields dd), ⟨Obj.cls_mapFields _ _, (dict_mapF _ _).trans g2⟩, dd, by simp [g6], st.fresh, hT, ?_, by rw [← hN], ?_⟩ fun b o hb hn => ?_)
  · rw [Heap.get?_update_other _ _ (fun z => by rw [← z, g4] at q; cases q)]
    exact Heap.get?_push_of_some _ (st b o q)
  · obtain ⟨sl, q⟩ := k1.2.2 b o hb
    exact ⟨{ o with slots := sl }, by rw [Heap.get?_update_other _ _ (Ne.symm (ne b o hb hn))]; exact Heap.get?_push_of_some _ q, rfl⟩
  · rw [Heap.get?_update_other _ _ (Ne.symm hT)]
    exact Heap.get?_push_size h1 (by rw [← hN]; rfl)
  · simp
  · obtain ⟨sl, q⟩ := k1.2.2 b o hb
    exact ⟨sl, by rw [Heap.get?_update_other _ _ (Ne.symm (ne b o hb hn))]; exact Heap.get?_push_of_some _ q⟩

/-- a new exception is noted in the frame where it was raised -/
theorem note_newD {base : Heap} {env : Env} {outer : List Env} {L e : Addr} {oe : Obj} {vs : Array Value} {Q : Unit → Shared → Prop} (hfr : A.frames = some (env :: outer)) (hl : s.heap.FunFrames base (env :: outer)) (hf : env.frame = some L)
    (g1 : s.heap.get? e = some oe) (g2 : oe.dict = none) (g3 : base.StaysIn s.heap) (g4 : base.get? e = none) (g5 : oe.data = .fields vs) (g6 : vs[1]? = some .none)
    (h : ∀ h', FlD base (env :: outer) e oe.cls (rawInt L) h' → s.heap.UpToSlots h' → Q () { s with heap := h' }) : wpAny M A (noteFrame (.ref e) env) Q E s := by
  unfold noteFrame
  simp only [hf]
  refine wpAny_bind (wpAny_field g1 g5 g6 ?_)
  rw [if_neg (by decide)]
  exact entryD hfr hl hf g1 g2 g3 g4 g5 (Array.getElem?_eq_some_iff.mp g6).1 h
/-- one that came from a callee -/
theorem note_onD {base : Heap} {env : Env} {outer : List Env} {L e : Addr} {cls : Value} {Q : Unit → Shared → Prop} (hfr : A.frames = some (env :: outer)) (hf : env.frame = some L) (fl : FlD base (env :: outer) e cls .none s.heap)
    (h : ∀ h', FlD base (env :: outer) e cls (rawInt L) h' → s.heap.UpToSlots h' → Q () { s with heap := h' }) : wpAny M A (noteFrame (.ref e) env) Q E s := by
  obtain ⟨f1, f2, f3, oe, vs, T, oT, ts, a1, ⟨rfl, a3⟩, a4, a5, a6, a7, a8, a9, a10⟩ := fl
  have o1 : ∀ b, b ≠ T → (s.heap.update T (Obj.mapFields (·.setIfInBounds 3 Value.none))).get? b = s.heap.get? b := fun b hb => Heap.get?_update_other _ _ (Ne.symm hb)
  have o2 : ∀ b o, s.heap.get? b = some o → (∀ ws, o.data ≠ .fields ws) → b ≠ T := fun b o hb hn q => by
    rw [q, a8] at hb
    cases hb
    exact hn ts a9
  unfold noteFrame
  simp only [hf]
  refine wpAny_bind (wpAny_field a1 a4 a5 ?_)
  rw [if_pos (by simp)]
  refine wpAny_bind (wpAny_field a8 a9 a10 ?_)
  rw [if_neg (by simp [rawInt])]
  refine wpAny_bind (wpAny_setField a8 a9 (Array.getElem?_eq_some_iff.mp a10).1 ?_)
  refine entryD hfr (f3.of_keeps fun b o hb hn => ⟨o, (o1 b (o2 b o hb hn)).trans hb, rfl⟩) hf ((o1 e (Ne.symm a7)).trans a1) a3 (fun b o q => (o1 b fun z => by rw [z, a6] at q; cases q).trans (f1 b o q)) f2 a4 (Array.getElem?_eq_some_iff.mp a5).1
    fun h' x1 x2 => h h' x1 fun b o hb hn => x2 b o ((o1 b (o2 b o hb hn)).trans hb) hn
/-- it is in flight no more -/
theorem landD {base : Heap} {l : List Env} {e : Addr} {cls f : Value} {Q : Unit → Shared → Prop} (fl : FlD base l e cls f s.heap)
    (h : ∀ h', FlD base l e cls .none h' → s.heap.UpToSlots h' → Q () { s with heap := h' }) : wpAny M A (setFlight (.ref e) none) Q E s := by
  obtain ⟨f1, f2, f3, oe, vs, T, oT, ts, a1, a2, a4, a5, a6, a7, a8, a9, a10⟩ := fl
  have z3 : 3 < ts.size := (Array.getElem?_eq_some_iff.mp a10).1
  have o1 : ∀ b, b ≠ T → (s.heap.update T (Obj.mapFields (·.setIfInBounds 3 ((none : Option Addr).elim Value.none fun f => rawInt f)))).get? b = s.heap.get? b := fun b hb => Heap.get?_update_other _ _ (Ne.symm hb)
  have o2 : ∀ b o, s.heap.get? b = some o → (∀ ws, o.data ≠ .fields ws) → b ≠ T := fun b o hb hn q => by
    rw [q, a8] at hb
    cases hb
    exact hn ts a9
  unfold setFlight
  refine wpAny_bind (wpAny_field a1 a4 a5 ?_)
  rw [if_pos (by simp)]
  refine wpAny_setField a8 a9 z3 (h _ ⟨fun b o q => (o1 b fun z => by rw [z, a6] at q; cases q).trans (f1 b o q), f2, f3.of_keeps fun b o hb hn => ⟨o, (o1 b (o2 b o hb hn)).trans hb, rfl⟩, oe, vs, T, _, _, (o1 e (Ne.symm a7)).trans a1, a2, a4, a5, a6, a7,
    Heap.get?_update_self _ a8 (Obj.isFreed_of_fields (Obj.data_mapFields a9 _)), Obj.data_mapFields a9 _, by simp [z3]⟩ fun b o hb hn => ⟨o.slots, (o1 b (o2 b o hb hn)).trans hb⟩)
theorem FlD.drop {base h : Heap} {env : Env} {outer : List Env} {e : Addr} {cls f : Value} (fl : FlD base (env :: outer) e cls f h) : FlD base outer e cls f h := by
  obtain ⟨k1, k2, ⟨_, _, k3⟩, k4⟩ := fl
  exact ⟨k1, k2, k3, k4⟩
theorem FlD.there {base h : Heap} {l : List Env} {e : Addr} {cls f : Value} (fl : FlD base l e cls f h) : ∃ ob, h.get? e = some ob ∧ ob.cls = cls ∧ ob.dict = none ∧ ∃ vs, ob.data = .fields vs := by
  obtain ⟨_, _, _, oe, vs, _, _, _, a1, a2, a3, _⟩ := fl
  exact ⟨oe, a1, a2.1, a2.2, vs, a3⟩
/-- out of a frame -/
theorem leave_newD {base : Heap} {env : Env} {outer : List Env} {L e : Addr} {oe : Obj} {vs : Array Value} {Q : Unit → Shared → Prop} (hfr : A.frames = some (env :: outer)) (hl : s.heap.FunFrames base (env :: outer)) (hf : env.frame = some L)
    (g1 : s.heap.get? e = some oe) (g2 : oe.dict = none) (g3 : base.StaysIn s.heap) (g4 : base.get? e = none) (g5 : oe.data = .fields vs) (g6 : vs[1]? = some .none)
    (h : ∀ h', FlD base outer e oe.cls .none h' → s.heap.UpToSlots h' → Q () { s with heap := h' }) : wpAny M A (leaving env (.ref e)) Q E s := by
  unfold leaving
  exact wpAny_bind (note_newD hfr hl hf g1 g2 g3 g4 g5 g6 fun h1 x1 y1 => landD x1 fun h2 x2 y2 => h h2 x2.drop (y1.trans y2))
theorem leave_onD {base : Heap} {env : Env} {outer : List Env} {L e : Addr} {cls : Value} {Q : Unit → Shared → Prop} (hfr : A.frames = some (env :: outer)) (hf : env.frame = some L) (fl : FlD base (env :: outer) e cls .none s.heap)
    (h : ∀ h', FlD base outer e cls .none h' → s.heap.UpToSlots h' → Q () { s with heap := h' }) : wpAny M A (leaving env (.ref e)) Q E s := by
  unfold leaving
  exact wpAny_bind (note_onD hfr hf fl fun h1 x1 y1 => landD x1 fun h2 x2 y2 => h h2 x2.drop (y1.trans y2))
end

theorem ObjOk.ex {P : Program} {w : World} {H : Hp} {h : Heap} {a : Addr} {o : HO} (x : ObjOk P w H h a o) : ∃ ob, h.get? a = some ob := by
  cases o with
  | lst xs => obtain ⟨_, _, _, _, e⟩ := x; exact ⟨_, e⟩
  | tup xs => obtain ⟨_, _, _, ob, e, _⟩ := x; exact ⟨_, e⟩
  | dK kvs => obtain ⟨_, _, _, _, o, _, _, e, _⟩ := x; exact ⟨_, e⟩
  | dT kvs => obtain ⟨_, _, _, _, o, _, _, e, _⟩ := x; exact ⟨_, e⟩
  | set S n => obtain ⟨o, _, _, _, e, _⟩ := x; exact ⟨_, e⟩
  | ins C dx fs => obtain ⟨_, _, _, e, _⟩ := x; exact ⟨_, e⟩
  | own y => exact x
  | xd fs => obtain ⟨_, ⟨_, _, _, e, _⟩, _⟩ := x; exact ⟨_, e⟩
  | rng lo hi => obtain ⟨_, _, _, e⟩ := x; exact ⟨_, e⟩
  | frz ob u => obtain ⟨e, _⟩ := x; exact ⟨_, e⟩
  | tbl ps => exact ⟨_, (show h.get? a = some _ from x)⟩
  | met f y => exact ⟨_, (show h.get? a = some _ from x)⟩
  | ext φ => obtain ⟨_, e, _⟩ := x; exact e
/-- an exception of class cls lies at ae, below it the frames l; what is tracked, and what was there in g (but frames), is in B and stays -/
def FlyAt (l : List Env) (H' : Hp) (g : Heap) (ae : Addr) (cls : Value) (h : Heap) : Prop :=
  ∃ B, FlD B l ae cls .none h ∧ (∀ b, H' b ≠ none → ∃ o, B.get? b = some o) ∧ ∀ b o, g.get? b = some o → b ∉ frs l → ∃ o', B.get? b = some o'
/-- how an exception lies behind a call -/
def CXE (P : Program) (w : World) : CXT := fun outer H s E e s' =>
  ∃ ae cls H', e = .ref ae ∧ s'.os = s.os ∧ AllBare s'.gens ∧ Un (frs outer) [] H H' s.heap s'.heap ∧ HOk P w H' s'.heap ∧ FlyAt outer H' s.heap ae cls s'.heap ∧ E cls none H'
theorem exE {P : Program} {w : World} {H : Hp} {s : Shared} {e : Value} {s' : Shared} {l : List Env} (h : CXE P w l H s (fun _ _ _ => False) e s') : False := by
  obtain ⟨_, _, _, _, _, _, _, _, _, z⟩ := h
  exact z
section
variable {X : Cx} {pins : List (Addr × Obj)} {σ : St} {H H2 : Hp} {s s1 : Shared} {B h' : Heap} {ae : Addr} {cls f : Value}
/-- the heap behind what notes an exception: all that the body knows is as it was -/
theorem up_un (I : Inv X pins σ H2 s1) (hex : X.ex = []) (b1 : B.StaysIn s1.heap) (b1' : B.StaysIn h') (b2 : ∀ b, H2 b ≠ none → ∃ o, B.get? b = some o) (b3 : ∀ b o, X.s₀.heap.get? b = some o → b ∉ X.fs → ∃ o', B.get? b = some o') (up : s1.heap.UpToSlots h') :
    Un X.fs [] X.H₀ H2 X.s₀.heap h' ∧ HOk X.prog X.w H2 h' := by
  have nx : ∀ b : Addr, b ∉ X.ex := fun b z => by rw [hex] at z; exact nomatch z
  have slot : ∀ b o, X.s₀.heap.get? b = some o → X.H₀ b = none → b ∈ X.fs → ∃ sl, h'.get? b = some { o with slots := sl } := fun b o e n hb => by
    obtain ⟨sl, e1⟩ := I.base.slot b o e n hb (nx b)
    obtain ⟨_, o', ho', hd⟩ := I.ok.funs.mem hb
    rw [e] at ho'
    cases ho'
    obtain ⟨sl', e2⟩ := up b _ e1 hd
    exact ⟨sl', e2⟩
  refine ⟨⟨fun b o e n hb _ => ?_, fun b o e n hb _ => slot b o e n hb, fun b o e n _ => I.base.free b o e n (nx b), fun b o e _ => ?_, I.base.tups, I.base.frzs, I.base.tbls⟩, fun a ho e => (I.hok a ho e).stay (fun b u hb q => ?_) (fun _ q => q) fun _ _ q => q⟩
  · obtain ⟨o', e'⟩ := b3 b o e hb
    have := b1 b o' e'
    rw [I.base.keep b o e n hb (nx b)] at this
    cases this
    exact b1' b o e'
  · by_cases hb : b ∈ X.fs
    · obtain ⟨sl, q⟩ := slot b o e (I.ok.frf b hb) hb
      exact ⟨_, q⟩
    · obtain ⟨o', e'⟩ := b3 b o e hb
      exact ⟨o', b1' b o' e'⟩
  · have hb : H2 b ≠ none := by
      rcases hb with rfl | hb
      · rw [e]; exact fun z => nomatch z
      · rw [hb]; exact fun z => nomatch z
    obtain ⟨o', e'⟩ := b2 b hb
    have := b1 b o' e'
    rw [q] at this
    cases this
    exact b1' b u e'
end
section
variable {P : Program} {w : World} {K : PySem.W.Frag} {mg : Str → Option Value} {base : Heap} {N : List Str} {qual : Str} {scope : Scope} {f : Addr} {cd : Value} {A : Around} {outer : List Env} {s : Shared} {H : Hp} {E : XK}
/-- a def's body whose exceptions lie as CXE says -/
abbrev cxE (P : Program) (w : World) (K : PySem.W.Frag) (mg : Str → Option Value) (base : Heap) (N : List Str) (qual : Str) (scope : Scope) (f : Addr) (cd : Value) (A : Around) (outer : List Env) (s : Shared) (H : Hp) (E : XK) : Cx :=
  cxOf (CXE P w) P w K mg base N qual scope f cd A outer s H E
/-- what raises: a new exception is what the body wishes of one -/
def Thrown (X : Cx) (E : XK) : Prop := ∀ (pins : List (Addr × Obj)) (σ : St) (H : Hp) (s : Shared) (h' : Heap) (ae : Addr) (cls : Value) (args : List Value), Inv X pins σ H s → Heap.MadeExcOf s.heap h' ae cls args → E cls none H → X.xe (.ref ae) { s with heap := h' }
theorem thrown_cx : Thrown (cxE P w K mg base N qual scope f cd A outer s H E) E := by
  intro pins σ H1 s1 h' ae cls args I hx hE
  obtain ⟨t, g1, _, _⟩ := hx.there
  have hin : ∀ env ∈ (cxE P w K mg base N qual scope f cd A outer s H E).stack, ∀ a, env.frame = some a → a ∈ frs (cxE P w K mg base N qual scope f cd A outer s H E).stack := fun env he a ha => List.mem_filterMap.mpr ⟨env, he, ha⟩
  have hl := PySem.W.funFrames_hide I.stack hin
  have st : (PySem.W.hideAll s1.heap (frs (cxE P w K mg base N qual scope f cd A outer s H E).stack)).StaysIn s1.heap := fun b o q => PySem.W.of_hideAll _ q
  have inB : ∀ b o, s1.heap.get? b = some o → b ∉ frs (cxE P w K mg base N qual scope f cd A outer s H E).stack → (PySem.W.hideAll s1.heap (frs (cxE P w K mg base N qual scope f cd A outer s H E).stack)).get? b = some o := fun b o e n => PySem.W.hideAll_get _ e n
  have b2 : ∀ b, H1 b ≠ none → ∃ o, (PySem.W.hideAll s1.heap (frs (cxE P w K mg base N qual scope f cd A outer s H E).stack)).get? b = some o := fun b hb => by
    cases e : H1 b with
    | none => exact absurd e hb
    | some ho =>
      obtain ⟨o, ho'⟩ := (I.hok b ho e).ex
      exact ⟨o, inB b o ho' fun z => by rw [I.stkFree b z] at e; cases e⟩
  have b3 : ∀ b o, s.heap.get? b = some o → b ∉ frs outer → ∃ o', (PySem.W.hideAll s1.heap (frs (cxE P w K mg base N qual scope f cd A outer s H E).stack)).get? b = some o' := fun b o e n => by
    obtain ⟨o', e'⟩ := I.base.there b o e (fun z => nomatch z)
    refine ⟨o', inB b o' e' fun z => ?_⟩
    rcases List.mem_cons.mp (I.stkSub b z) with q | q
    · exact absurd (Nat.lt_of_lt_of_le (Heap.lt_size e) (by rw [q]; exact I.ok.above)) (Nat.lt_irrefl _)
    · exact n q
  refine leave_newD (base := PySem.W.hideAll s1.heap (frs (cxE P w K mg base N qual scope f cd A outer s H E).stack)) I.ok.frames (hl.of_keeps fun b o hb _ => ⟨o, hx.keeps b o hb, rfl⟩) rfl g1 rfl (fun b o q => hx.keeps b o (st b o q)) ?_ rfl rfl fun h2 fl up => ?_
  · cases q : (PySem.W.hideAll s1.heap (frs (cxE P w K mg base N qual scope f cd A outer s H E).stack)).get? ae with
    | none => rfl
    | some o => have := st ae o q; rw [hx.new] at this; cases this
  · obtain ⟨u1, u2⟩ := up_un I rfl st fl.1 b2 b3 ((Heap.UpToSlots.of_keeps hx.keeps).trans up)
    exact ⟨ae, cls, H1, rfl, I.os, I.bare, u1, u2, ⟨_, fl, b2, b3⟩, hE⟩
/-- what passes through a body on its way up; Es: what is wanted of it, by the names' values -/
def PassesX (CX : CXT) (X : Cx) (Es : St → XK) : Prop := ∀ (pins : List (Addr × Obj)) (σ : St) (H : Hp) (s : Shared) (e : Value) (s' : Shared), Inv X pins σ H s → CX X.stack H s (Es σ) e s' → X.xe e s'
theorem passes_cx : PassesX (CXE P w) (cxE P w K mg base N qual scope f cd A outer s H E) (fun _ => E) := by
  intro pins σ H1 s1 e s' I h
  obtain ⟨ae, cls, H2, rfl, os, bare, un, hok, ⟨B, fl, b2, b3⟩, hE⟩ := h
  have I2 : Inv (cxE P w K mg base N qual scope f cd A outer s H E) pins σ H2 s' := I.call' (ch := []) os un hok bare fun b z => nomatch z
  have b3' : ∀ b o, s.heap.get? b = some o → b ∉ frs outer → ∃ o', B.get? b = some o' := fun b o e n => by
    obtain ⟨o', e'⟩ := I.base.there b o e (fun z => nomatch z)
    refine b3 b o' e' fun z => ?_
    rcases List.mem_cons.mp (I.stkSub b z) with q | q
    · exact absurd (Nat.lt_of_lt_of_le (Heap.lt_size e) (by rw [q]; exact I.ok.above)) (Nat.lt_irrefl _)
    · exact n q
  refine leave_onD I.ok.frames rfl fl fun h2 fl2 up => ?_
  obtain ⟨u1, u2⟩ := up_un I2 rfl fl.1 fl2.1 b2 b3' up
  exact ⟨ae, cls, H2, rfl, I2.os, I2.bare, u1, u2, ⟨B, fl2, b2, b3'⟩, hE⟩
end
section
variable {X : Cx}
/-- f(..), its exceptions as Es wants them -/
def tCallX (sp : Sp) (dvs : List V) (Es : St → XK) (t : TA) : TE := fun σ H Q => t σ H fun vs H1 => sp (vs ++ dvs) H1 Q (Es σ)
theorem run_fnX {CX : CXT} {k : Nat} {f : Addr} {fd : FuncData} {ps : List Str} {sp : Sp} {dvs : List V} {ds : List Value} {Es : St → XK} {pins : List (Addr × Obj)} {σ : St} {H : Hp} {s : Shared} {Q : VK} {us : List Value} {vs : List V}
    (F : FnOk X.prog X.w X.K X.mg X.base CX k f fd ps sp) (hr : Room k X.A) (hb : Binds X.K fd ps ds) (hd : Vals dvs ds) (hx : PassesX CX X Es) (I : Inv X pins σ H s) (r : Vals vs us) (h : sp (vs ++ dvs) H Q (Es σ)) :
    wpAny (model X.prog X.w) X.A (call (.ref f) us) (EP X pins σ Q) X.xe s := by
  have r2 : Vals (vs ++ dvs) (us ++ ds) := r.append hd
  have hl : (us ++ ds).length = ps.length := by rw [← r2.length]; exact F.len _ _ _ _ h
  refine wpAny_call (codeAny_mono (F.run X.A X.stack s H ⟨us, []⟩ (us ++ ds) (vs ++ dvs) Q (Es σ) hr I.env0 (hb s us I.kIn hl) r2 h) fun r s' hq => ?_)
  cases r with
  | error e => exact hx pins σ H s e s' I hq
  | ok fl =>
    cases fl with
    | ret u => exact I.after hq
    | next => exact False.elim hq
    | brk => exact False.elim hq
    | cont => exact False.elim hq
/-- a def at the text's top, its promise, the defaults of its last parameters -/
structure CalD (P : Program) (w : World) (K : PySem.W.Frag) (mg : Str → Option Value) (base : Heap) (CX : CXT) (k : Nat) (x : Str) (ps : List Str) (dvs : List V) (sp : Sp) : Prop where
  ex : ∃ f fd ds, FnOk P w K mg base CX k f fd ps sp ∧ mg x = some (.ref f) ∧ PySem.W.keepIn K (.ref f) = true ∧ Binds K fd ps ds ∧ Vals dvs ds
theorem pe_calX {CX : CXT} {k : Nat} {x : Str} {ps : List Str} {dvs : List V} {sp : Sp} {Es : St → XK} {e : Expr} {es : List Expr} {t : TA} {p pos : Pos} (c : CalD X.prog X.w X.K X.mg X.base CX k x ps dvs sp) (hr : Room k X.A) (hg : Gl X x) (hx : PassesX CX X Es)
    (ha : PA X (e :: es) t) (hdb : (x == ("__debug__" : Str)) = false := by decide) (he : starEach (e :: es) X.env = (false, eval e X.env) :: starEach es X.env := by rfl) (hpl : (backTo pos (starEach es X.env)).any (·.1) = false := by rfl) :
    PE X (.Call (.Name x p) (e :: es) [] pos) (tCallX sp dvs Es t) := by
  obtain ⟨f, fd, ds, F, hm, hk, hb, hd⟩ := c.ex
  intro pins s σ H Q I h
  refine wpAny_Call_Name_kw (ld_glob I hg hm ?_ hdb)
  refine PySem.W.callWith_K (h₀ := X.base) I.ok.mod.kin hk (thn (ha pos pins s σ H _ I h) fun us s1 ⟨vs, H1, I1, r, q⟩ => ⟨I1.kIn, ?_⟩) he hpl
  exact run_fnX F hr hb hd hx I1 r q
end
section
variable {P : Program} {w : World} {K : PySem.W.Frag} {mg : Str → Option Value} {base : Heap}
/-- THE RULE for a def whose exceptions are told -/
theorem Fun.okE {x qual : Str} {st : Stmt} {f : Addr} {fd : FuncData} {N ps : List Str} {k : Nat} {sp : Sp} (F : Fun K x qual st f fd) (S : FnScope N ps (defScope st)) (len : ∀ vs H Q E, sp vs H Q E → vs.length = ps.length)
    (hbody : ∀ (cdv : Value) (A : Around) (outer : List Env) (s : Shared) (H : Hp) (vs : List V) (Q : VK) (E : XK), Room k (A.deeper (envOfC qual (defScope st) s.heap.objs.size f cdv)) → sp vs H Q E →
      ∃ t, PSs (cxE P w K mg base N qual (defScope st) f cdv A outer s H E) (defBody st) t ∧ t { nx := fun _ H' => Q .non H', rt := Q } (start N vs) H) : FnOk P w K mg base (CXE P w) (k + 1) f fd ps sp := by
  obtain ⟨oc, od, kV, doc, pm, an, cdv, ct, osl, rfl, lk, hcd⟩ := F.ex
  exact fn_of lk hcd S len fun A outer s H vs Q E hr hsp => hbody cdv A outer s H vs Q E hr hsp
/-- a def that raises nothing is one of these, too -/
theorem FnOk.toE {k : Nat} {f : Addr} {fd : FuncData} {ps : List Str} {sp : Sp} (F : FnOk P w K mg base CX0 k f fd ps sp) : FnOk P w K mg base (CXE P w) k f fd ps sp :=
  ⟨F.len, fun A outer s H args us vs Q E hr he hb hv hs => codeAny_mono (F.run A outer s H args us vs Q E hr he hb hv hs) fun r s' hq => by
    cases r with
    | error e => exact False.elim hq
    | ok fl =>
      cases fl with
      | ret u => exact hq
      | next => exact hq
      | brk => exact hq
      | cont => exact hq⟩
end
end L2

set_option Elab.async false
set_option linter.all false
set_option maxRecDepth 100000
namespace L2
open PySem PySem.Spec PyProof.Rows
/-! ### raise C(..), C an own class under ValueError -/
abbrev bmVE : List Value := [.type "ValueError", .type "Exception", .type "BaseException", .type "object"]
/-- a namespace's object that has no __init__ -/
def nsKB (o : Obj) : Bool := match o.data with
  | .dict es _ => (es.toList.all fun e => match e.key with | .str _ _ => true | _ => false) && (nsFind es "__init__").isNone
  | _ => false
theorem nsKB_ns {o : Obj} (h : nsKB o = true) {g : Heap} {a : Addr} (e : g.get? a = some o) : ∃ m, g.Ns a m ∧ m "__init__" = none := by
  unfold nsKB at h
  split at h
  · rename_i es ep hd
    rw [Bool.and_eq_true] at h
    refine ⟨fun x => nsFind es x, ⟨o, es, ep, e, hd, fun en hen => ?_, fun _ => rfl⟩, by simpa using h.2⟩
    have := List.all_eq_true.mp h.1 en (by simpa using hen)
    split at this
    · rename_i n t hk
      exact ⟨n, t, hk⟩
    · cases this
  · cases h
inductive TailK (K : PySem.W.Frag) : List Value → Prop
  | base : TailK K bmVE
  | own {A : Addr} {c0 : Value} {dd : Option Addr} {cd : ClassData} {sl : Array (Option Value)} {oN : Obj} {tl : List Value} : K.lookup A = some ⟨c0, dd, .cls cd, sl⟩ → K.lookup cd.ns = some oN → nsKB oN = true → TailK K tl → TailK K (.ref A :: tl)
theorem TailK.tail {K : PySem.W.Frag} {h : Heap} (X : K.In h) {tl : List Value} (t : TailK K tl) : OwnTail h bmVE tl := by
  induction t with
  | base => exact .base
  | own h1 h2 h3 _ ih =>
    obtain ⟨m, hm, hi⟩ := nsKB_ns h3 (X _ _ h2)
    exact .own (X _ _ h1) hm hi ih
structure ExcK (K : PySem.W.Frag) (C : Addr) : Prop where
  ex : ∃ nm q N bs tl hdct sn sub ab col dd k0 k1 k2 k3 k5 oN, K.lookup C = some (excClassObj nm q C N bs tl hdct sn sub ab col dd k0 k1 k2 k3 k5 "ValueError.__new__") ∧ K.lookup N = some oN ∧ nsKB oN = true ∧ TailK K tl
section
variable {X : Cx}
theorem ps_raise {x : Str} {C : Addr} {e : Expr} {es : List Expr} {t : TA} {E : XK} {np cpos pos : Pos} (hc : X.calm = true) (ht : Thrown X E) (hg : Gl X x) (hm : X.mg x = some (.ref C)) (ec : ExcK X.K C) (ha : PA X (e :: es) t)
    (hdb : (x == ("__debug__" : Str)) = false := by decide) (he : starEach (e :: es) X.env = (false, eval e X.env) :: starEach es X.env := by rfl) (hpl : (backTo cpos (starEach es X.env)).any (·.1) = false := by rfl) :
    PS X (.Raise (some (.Call (.Name x np) (e :: es) [] cpos)) none pos) (fun D σ H => t σ H fun vs H1 => vs.length ≤ sizeLine ∧ E (.ref C) none H1) := by
  intro pins s σ H D I h
  obtain ⟨nm, q, N, bs, tl, hdct, sn, sub, ab, col, dd, k0, k1, k2, k3, k5, oN, h1, h2, h3, T⟩ := ec.ex
  obtain ⟨mN, hN, hni⟩ := nsKB_ns h3 (I.kIn _ _ h2)
  have kk : ∀ {s' : Shared} {σ' : St} {H' : Hp}, Inv X pins σ' H' s' → s'.heap.Ns N mN := fun {s' σ' H'} I' => by
    obtain ⟨o, es', ep, ho, r⟩ := hN
    have e1 := I.kIn _ _ h2
    rw [e1] at ho
    cases ho
    exact ⟨_, es', ep, I'.kIn _ _ h2, r⟩
  refine wpAny_Raise_call_subT (C := C) (nm := nm) (q := q) (N := N) (bs := bs) (bm := tl) (hdct := hdct) (sn := sn) (sub := sub) (ab := ab) (col := col) (dd := dd) (k0 := k0) (k1 := k1) (k2 := k2) (k3 := k3) (k5 := k5)
    F.excBase_ValueError (mN := mN) ((T.tail I.kIn).hasType F.excBase_ValueError.hasBase) (I.ok.hd hc) (by rw [he]; show (false || (backTo cpos (starEach es X.env)).any (·.1)) = false; rw [hpl]; rfl) hni (ld_glob I hg hm ⟨rfl, ?_⟩ hdb)
  have hA := ha cpos pins s σ H _ I h
  rw [he] at hA ⊢
  exact Calls.evalArgs_plain (thn hA fun us s1 ⟨vs, H1, I1, r, hl, hE⟩ => ⟨rfl, by show us.length ≤ sizeLine; rw [← r.length]; exact hl, I1.kIn _ _ h1, kk I1, T.tail I1.kIn, fun h' ae hx => ht pins σ H1 s1 h' ae _ _ I1 hx hE⟩)
end
/-! ### try .. except C (as n) -/
abbrev Cx.inTry (X : Cx) (EH : Value → Shared → Prop) (pins : List (Addr × Obj)) : Cx := { X with xe := EH, pn := X.pn ++ pins }
abbrev Cx.inH (X : Cx) (ae : Addr) : Cx := { X with A := X.A.mark (some (.ref ae)), calm := false, xe := fun _ _ => False }
/-- what is known of a caught exception -/
def excφ (ae : Addr) (cls : Value) (h : Heap) : Prop := ∃ ob, h.get? ae = some ob ∧ ob.cls = cls ∧ ob.dict = none ∧ ∃ vs, ob.data = .fields vs
abbrev xHO (ae : Addr) (cls : Value) : HO := .ext (excφ ae cls)
section
variable {X : Cx} {pins : List (Addr × Obj)} {σ : St} {H H2 : Hp} {s s1 : Shared} {B h' : Heap} {ae : Addr} {cls f : Value}
end
/-- an exception stands in a handler -/
def hEnds (k : Nat) (D : Ends) : Ends := { nx := fun σ H => D.nx (σ.set k none) H, rt := D.rt, bk := fun σ H => D.bk (σ.set k none) H, ct := fun σ H => D.ct (σ.set k none) H }
def tTryAs (K : PySem.W.Frag) (C : Addr) (k : Nat) (tb : (St → XK) → TS) (ts : TS) : TS := fun D σ H =>
  tb (fun σ' cls _ H' => PySem.W.exmOne K cls (.ref C) = some true ∧ ∀ ae, H' ae = none → ts (hEnds k D) (σ'.set k (some (.ref ae))) (upd H' ae (xHO ae cls))) D σ H
section
variable {X : Cx}
end
end L2

set_option Elab.async false
set_option linter.all false
set_option maxRecDepth 100000
namespace L2
open PySem PySem.Spec PyProof.Rows
/-! ### the text's own defs as the top leaves them, and the law's own head -/
def TopFn (K : PySem.W.Frag) (x : Str) (st : Stmt) : Prop := ∃ f fd, PySem.W.nsIn K mainGlobals x = some (some (.ref f)) ∧ Fun K x x st f fd
theorem topFn_mk {K : PySem.W.Frag} {x : Str} {st : Stmt} {f : Addr} {oc : Value} {od an : Option Addr} {osl : Array (Option Value)} {kV doc pm cdv ct : Value} (a : PySem.W.nsIn K mainGlobals x = some (some (.ref f)))
    (l : K.lookup f = some ⟨oc, od, .func (PySem.W.fnOf x x (defArgs st) (defBody st) (defScope st) .none kV doc pm an cdv ct), osl⟩) (c : PySem.W.codeIn K cdv x = true) (k : PySem.W.keepIn K (.ref f) = true) : TopFn K x st :=
  ⟨f, _, a, fun_mk l c k⟩
section
variable {P : Program} {w : World} {K : PySem.W.Frag} {mg : Str → Option Value} {base h : Heap} {x : Str} {st : Stmt}
/-- a law's promise: a list of at most 63 ints is handed in, True comes out -/
def spLaw (K : PySem.W.Frag) : Sp := fun vs H Q _ => ∃ (a : Addr) (ns : List Int), vs = [.ref a] ∧ SqL K H a (ns.map V.int) ∧ ns.length ≤ 63 ∧ ∀ H', Q (.bl true) H'
theorem TopFn.law {k : Nat} {CX : CXT} {fa : Addr} (t : TopFn K "law" st) (KX : K.In h) (G : h.Ns mainGlobals mg) (hfa : mg "law" = some (.ref fa))
    (hb : ∀ (kV doc pm : Value) (an : Option Addr) (cdv ct : Value) (u : Value), bindArgs (PySem.W.fnOf "law" "law" (defArgs st) (defBody st) (defScope st) .none kV doc pm an cdv ct) ⟨[u], []⟩ = pure [(("_law_script" : Str), u)])
    (ok : ∀ base : Heap, K.In base → base.Ns mainGlobals mg → ∀ f fd, Fun K "law" "law" st f fd → FnOk P w K mg base CX k f fd ["_law_script"] (spLaw K)) :
    ∃ fd : FuncData, (∀ (s : Shared) (v : Value), BindsTo s fd ⟨[v], []⟩ [("_law_script", v)]) ∧ ∀ base : Heap, K.In base → base.Ns mainGlobals mg → FnOk P w K mg base CX k fa fd ["_law_script"] (spLaw K) := by
  obtain ⟨f, fd, ns, F⟩ := t
  have e := hfa.symm.trans (PySem.W.mg_of KX G ns)
  cases e
  refine ⟨fd, fun s v => ?_, fun base kb nb => ok base kb nb _ fd F⟩
  obtain ⟨oc, od, kV, doc, pm, an, cdv, ct, osl, rfl, lk, hcd⟩ := F.ex
  exact .of_eq (hb kV doc pm an cdv ct v)
end
theorem walk63 {l : PySem.W.OpenLaw} {q : Program} {loose : List Str} {XP : (Str → Option Value) → Heap → Prop} {YP : World → Heap → Prop} {d : DefRec} {K : Params → PySem.W.Frag} {CX : World → CXT} {k : Nat} (hk : Room k callerA) (hn : l.most = some 63) (hdf : d.params.defaults = [])
    (hY : ∀ (w : World) (h : Heap), YP w h → (K w.params).In h)
    (F : ∀ (w : World) (mg : Str → Option Value) (fa : Addr) (h : Heap), (K w.params).In h → h.Ns mainGlobals mg → mg d.name = some (.ref fa) →
      ∃ fd : FuncData, (∀ (s : Shared) (u : Value), BindsTo s fd ⟨[u], []⟩ [("_law_script", u)]) ∧ ∀ base : Heap, (K w.params).In base → base.Ns mainGlobals mg → FnOk l.prog w (K w.params) mg base (CX w) k fa fd ["_law_script"] (spLaw (K w.params)))
    (hCX : ∀ (w : World) (H : Hp) (s : Shared) (e : Value) (s' : Shared), CX w [] H s (fun _ _ _ => False) e s' → False) :
    PySem.W.WalkO q loose XP YP l.row.toRowW d [] (fun f vs => PySem.call f vs) :=
  L2.walk_of (n := 63) (k := k) (x := "_law_script") (CX := CX) (sp := fun w => spLaw (K w.params)) hn (by decide) hdf hk hY F (fun _ _ a ns hl _ hS => ⟨a, ns, rfl, hS, hl, fun _ => rfl⟩) hCX
end L2

set_option Elab.async false
set_option linter.all false
set_option maxRecDepth 100000
namespace L2
open PySem PySem.Spec PyProof.Rows
/-! ### small words -/
theorem same_new {H : Hp} {p : Addr} {o : HO} (hp : H p = none) : Same H (upd H p o) := fun b u e => by
  rw [upd_ne (ne_of_none e hp)]
  exact e
theorem at_nat {xs : List V} {j : Nat} {v : V} (h : xs[j]? = some v) {i : Int} (e : i = j) : atI xs i = some v := by
  subst e
  exact atI_nat h
theorem ixN_nat {n i : Nat} (h : i < n) : ixN n (i : Int) = some i := by
  unfold ixN
  rw [if_pos (by omega), if_pos (by omega)]
  simp
theorem cut_drop {xs : List V} {i : Nat} (h : i ≤ xs.length) : cutV xs (some (i : Int)) none = xs.drop i := by
  unfold cutV
  rw [HT.sIx_none, HT.sIx_nat, Nat.min_eq_left h, List.take_of_length_le (by simp)]
/-! ### a datum's shape -/
def Shp (n : Nat) (d : PyData) : Prop := d.canLay0 = true ∧ d.depth ≤ n
theorem Shp.non {n : Nat} : Shp n .none := ⟨rfl, Nat.zero_le _⟩
theorem Shp.bl {n : Nat} (b : Bool) : Shp n (.bool b) := ⟨rfl, Nat.zero_le _⟩
theorem Shp.int {n : Nat} (i : Int) : Shp n (.int i) := ⟨rfl, Nat.zero_le _⟩
theorem Shp.str {n : Nat} {x : Str} (h : PyData.strOk x = true) : Shp n (.str x) := ⟨h, Nat.zero_le _⟩
theorem canAll : ∀ {ds : List PyData}, (∀ d ∈ ds, d.canLay0 = true) → PyData.canLayAll0 ds = true
  | [], _ => rfl
  | d :: ds, h => by
    rw [PyData.canLayAll0, h d List.mem_cons_self, canAll fun e he => h e (List.mem_cons_of_mem _ he)]
    rfl
theorem depAll {n : Nat} : ∀ {ds : List PyData}, (∀ d ∈ ds, d.depth ≤ n) → PyData.depthAll ds ≤ n
  | [], _ => Nat.zero_le _
  | d :: ds, h => by
    rw [PyData.depthAll]
    exact Nat.max_le.mpr ⟨h d List.mem_cons_self, depAll fun e he => h e (List.mem_cons_of_mem _ he)⟩
theorem Shp.lst {n : Nat} {ds : List PyData} (h : ∀ d ∈ ds, Shp n d) : Shp (n + 1) (.list ds) := ⟨by
  rw [PyData.canLay0]
  exact canAll fun d hd => (h d hd).1, by
  rw [PyData.depth]
  exact Nat.succ_le_succ (depAll fun d hd => (h d hd).2)⟩
theorem Shp.tup {n : Nat} {ds : List PyData} (h : ∀ d ∈ ds, Shp n d) : Shp (n + 1) (.tuple ds) := ⟨by
  rw [PyData.canLay0]
  exact canAll fun d hd => (h d hd).1, by
  rw [PyData.depth]
  exact Nat.succ_le_succ (depAll fun d hd => (h d hd).2)⟩
theorem all0 {n : Nat} : ∀ d ∈ ([] : List PyData), Shp n d := fun _ h => nomatch h
theorem all1 {n : Nat} {d : PyData} {ds : List PyData} (h : Shp n d) (r : ∀ e ∈ ds, Shp n e) : ∀ e ∈ d :: ds, Shp n e := fun e he => (List.mem_cons.mp he).elim (fun z => z ▸ h) (r e)
theorem Shp.mono {n m : Nat} {d : PyData} (h : Shp n d) (e : n ≤ m) : Shp m d := ⟨h.1, Nat.le_trans h.2 e⟩
theorem Shp.shaped {n : Nat} {d : PyData} (h : Shp n d) (hn : n ≤ 64) : SeqAt.shaped d = true := by
  unfold SeqAt.shaped
  rw [h.1, decide_eq_true (Nat.le_trans h.2 hn)]
  rfl
theorem Shp.eqv {n : Nat} {d : PyData} (h : Shp n d) : PyData.eqv d d = true := SeqAt.eqv_refl d h.1
/-! ### arguments without a star -/
@[reducible] def plainE : Expr → Bool
  | .Starred _ _ => false
  | _ => true
theorem star_plain {e : Expr} {es : List Expr} {env : Env} (h : plainE e = true) : starEach (e :: es) env = (false, eval e env) :: starEach es env := by
  cases e <;> first | rfl | cases h
theorem star_any {pos : Pos} {env : Env} : ∀ {es : List Expr}, es.all plainE = true → (backTo pos (starEach es env)).any (·.1) = false
  | [], _ => rfl
  | e :: es, h => by
    rw [List.all_cons, Bool.and_eq_true] at h
    rw [star_plain h.1]
    have := star_any (pos := pos) (env := env) h.2
    unfold backTo at this ⊢
    rw [List.map_cons, List.any_cons, this]
    rfl
section
variable {X : Cx}
theorem pa_c {e : Expr} {es : List Expr} {te : TE} {t : TA} (ha : PE X e te) (hr : PA X es t) (h : plainE e = true := by rfl) : PA X (e :: es) (tCons te t) := pa_cons ha hr (star_plain h)
/-- f(..) of an own def; of a builtin; of a type -/
theorem pe_cf {CX : CXT} {k : Nat} {x : Str} {ps : List Str} {dvs : List V} {sp : Sp} {Es : St → XK} {e : Expr} {es : List Expr} {t : TA} {p pos : Pos} (c : CalD X.prog X.w X.K X.mg X.base CX k x ps dvs sp) (hr : Room k X.A) (hg : Gl X x) (hx : PassesX CX X Es)
    (ha : PA X (e :: es) t) (h : (e :: es).all plainE = true := by rfl) (hdb : (x == ("__debug__" : Str)) = false := by decide) : PE X (.Call (.Name x p) (e :: es) [] pos) (tCallX sp dvs Es t) := by
  have h' : plainE e = true ∧ es.all plainE = true := by rwa [List.all_cons, Bool.and_eq_true] at h
  exact pe_calX c hr hg hx ha hdb (star_plain h'.1) (star_any h'.2)
theorem pe_cb {id : String} {r : List V → Hp → VK → Prop} {x : Str} {e : Expr} {es : List Expr} {t : TA} {p pos : Pos} (hc : CallR X (.builtin id) r) (hg : Gl X x) (hm : X.mg x = none) (hv : bootBuiltins x = some (.builtin id)) (ha : PA X (e :: es) t)
    (h : (e :: es).all plainE = true := by rfl) (hn : x ≠ "__name__" := by decide) (hdb : (x == ("__debug__" : Str)) = false := by decide) : PE X (.Call (.Name x p) (e :: es) [] pos) (tCB r t) := by
  have h' : plainE e = true ∧ es.all plainE = true := by rwa [List.all_cons, Bool.and_eq_true] at h
  exact pe_callB hc hg hm hv ha hn hdb (star_plain h'.1) (star_any h'.2)
theorem pe_ct {T : String} {r : List V → Hp → VK → Prop} {x : Str} {e : Expr} {es : List Expr} {t : TA} {p pos : Pos} (hc : CallR X (.type T) r) (hg : Gl X x) (hm : X.mg x = none) (hv : bootBuiltins x = some (.type T)) (ha : PA X (e :: es) t)
    (h : (e :: es).all plainE = true := by rfl) (hn : x ≠ "__name__" := by decide) (hdb : (x == ("__debug__" : Str)) = false := by decide) : PE X (.Call (.Name x p) (e :: es) [] pos) (tCB r t) := by
  have h' : plainE e = true ∧ es.all plainE = true := by rwa [List.all_cons, Bool.and_eq_true] at h
  exact pe_callTy hc hg hm hv ha hn hdb (star_plain h'.1) (star_any h'.2)
/-! ### several kinds at once -/
def rInA (K : PySem.W.Frag) : R2 := fun x y H Q => rIn K false x y H Q ∨ (∃ i j, x = .str i ∧ y = .str j ∧ Q (.bl (!(Builtin.Str.occurrences j i 0 j.length 1).isEmpty)) H)
theorem op_inA : OpR X (compareOp .In) (rInA X.K) := op_in_seq.or op_in_str
def rEqA (K : PySem.W.Frag) : R2 := fun x y H Q => rEq x y H Q ∨ rEqD K x y H Q
theorem op_eqA (hu : X.A.units + 64 < cLine) : OpR X (compareOp .Eq) (rEqA X.K) := op_eq.or (op_eqD hu)
def rNeA (K : PySem.W.Frag) : R2 := fun x y H Q => rNe x y H Q ∨ rNeD K x y H Q
theorem op_neA (hu : X.A.units + 64 < cLine) : OpR X (compareOp .NotEq) (rNeA X.K) := op_ne.or (op_neD hu)
theorem rEqA.same {K : PySem.W.Frag} {x y : V} {H : Hp} {Q : VK} {n : Nat} {d : PyData} (h : Shp n d) (hn : n ≤ 64) (r1 : Rep K H x d) (r2 : Rep K H y d) (q : Q (.bl true) H) : rEqA K x y H Q :=
  .inr ⟨d, d, r1, r2, h.shaped hn, h.shaped hn, by rw [h.eqv]; exact q⟩
theorem rNeA.same {K : PySem.W.Frag} {x y : V} {H : Hp} {Q : VK} {n : Nat} {d : PyData} (h : Shp n d) (hn : n ≤ 64) (r1 : Rep K H x d) (r2 : Rep K H y d) (q : Q (.bl false) H) : rNeA K x y H Q :=
  .inr ⟨d, d, r1, r2, h.shaped hn, h.shaped hn, by rw [h.eqv]; exact q⟩
/-- a class, a function, a tuple of the module; a type of Python's -/
theorem pe_gref {x : Str} {a : Addr} {pos : Pos} (hg : Gl X x) (hm : X.mg x = some (.ref a)) (hd : (x == ("__debug__" : Str)) = false := by decide) : PE X (.Name x pos) (tC (.ref a)) := pe_glob hg hm rfl hd
/-- nothing is raised -/
theorem passes_none {P : Program} {w : World} : PassesX (CXE P w) X (fun _ => E0) := fun _ _ _ _ _ _ _ h => (exE h).elim
end
/-! ### defs with defaults -/
structure FunD (K : PySem.W.Frag) (x qual : Str) (st : Stmt) (f : Addr) (fd : FuncData) (dV : Value) : Prop where
  ex : ∃ (oc : Value) (od : Option Addr) (kV doc pm : Value) (an : Option Addr) (cdv ct : Value) (osl : Array (Option Value)),
    fd = PySem.W.fnOf x qual (defArgs st) (defBody st) (defScope st) dV kV doc pm an cdv ct ∧ K.lookup f = some ⟨oc, od, .func fd, osl⟩ ∧ PySem.W.codeIn K cdv qual = true
  kp : PySem.W.keepIn K (.ref f) = true
def TopFnD (K : PySem.W.Frag) (x : Str) (st : Stmt) (dV : Value) : Prop := ∃ f fd, PySem.W.nsIn K mainGlobals x = some (some (.ref f)) ∧ FunD K x x st f fd dV
theorem topFnD_mk {K : PySem.W.Frag} {x : Str} {st : Stmt} {f : Addr} {oc : Value} {od an : Option Addr} {osl : Array (Option Value)} {dV kV doc pm cdv ct : Value} (a : PySem.W.nsIn K mainGlobals x = some (some (.ref f)))
    (l : K.lookup f = some ⟨oc, od, .func (PySem.W.fnOf x x (defArgs st) (defBody st) (defScope st) dV kV doc pm an cdv ct), osl⟩) (c : PySem.W.codeIn K cdv x = true) (k : PySem.W.keepIn K (.ref f) = true) : TopFnD K x st dV :=
  ⟨f, _, a, ⟨⟨oc, od, kV, doc, pm, an, cdv, ct, osl, rfl, l, c⟩, k⟩⟩
section
variable {P : Program} {w : World} {K : PySem.W.Frag} {mg : Str → Option Value} {base h : Heap}
theorem FunD.okE {x qual : Str} {st : Stmt} {f : Addr} {fd : FuncData} {dV : Value} {N ps : List Str} {k : Nat} {sp : Sp} (F : FunD K x qual st f fd dV) (S : FnScope N ps (defScope st)) (len : ∀ vs H Q E, sp vs H Q E → vs.length = ps.length)
    (hbody : ∀ (cdv : Value) (A : Around) (outer : List Env) (s : Shared) (H : Hp) (vs : List V) (Q : VK) (E : XK), Room k (A.deeper (envOfC qual (defScope st) s.heap.objs.size f cdv)) → sp vs H Q E →
      ∃ t, PSs (cxE P w K mg base N qual (defScope st) f cdv A outer s H E) (defBody st) t ∧ t { nx := fun _ H' => Q .non H', rt := Q } (start N vs) H) : FnOk P w K mg base (CXE P w) (k + 1) f fd ps sp := by
  obtain ⟨oc, od, kV, doc, pm, an, cdv, ct, osl, rfl, lk, hcd⟩ := F.ex
  exact fn_of lk hcd S len fun A outer s H vs Q E hr hsp => hbody cdv A outer s H vs Q E hr hsp
theorem TopFn.calD {CX : CXT} {k : Nat} {x : Str} {st : Stmt} {ps : List Str} {sp : Sp} (t : TopFn K x st) (KX : K.In h) (G : h.Ns mainGlobals mg) (ok : ∀ f fd, Fun K x x st f fd → FnOk P w K mg base CX k f fd ps sp)
    (hb : ∀ (kV doc pm : Value) (an : Option Addr) (cdv ct : Value) (us : List Value), us.length = ps.length → bindArgs (PySem.W.fnOf x x (defArgs st) (defBody st) (defScope st) .none kV doc pm an cdv ct) ⟨us, []⟩ = pure (ps.zip us)) : CalD P w K mg base CX k x ps [] sp := by
  obtain ⟨f, fd, ns, F⟩ := t
  exact ⟨f, fd, [], ok f fd F, PySem.W.mg_of KX G ns, F.kp, F.binds hb, .nil⟩
/-- all arguments written; or the last ones left out (ds) -/
theorem TopFnD.calD {CX : CXT} {k : Nat} {x : Str} {st : Stmt} {dV : Value} {ps : List Str} {sp : Sp} {dvs : List V} {ds : List Value} (t : TopFnD K x st dV) (KX : K.In h) (G : h.Ns mainGlobals mg) (ok : ∀ f fd, FunD K x x st f fd dV → FnOk P w K mg base CX k f fd ps sp)
    (hb : ∀ (s : Shared) (kV doc pm : Value) (an : Option Addr) (cdv ct : Value) (us : List Value), K.In s.heap → (us ++ ds).length = ps.length → BindsTo s (PySem.W.fnOf x x (defArgs st) (defBody st) (defScope st) dV kV doc pm an cdv ct) ⟨us, []⟩ (ps.zip (us ++ ds)))
    (hv : Vals dvs ds) : CalD P w K mg base CX k x ps dvs sp := by
  obtain ⟨f, fd, ns, F⟩ := t
  refine ⟨f, fd, ds, ok f fd F, PySem.W.mg_of KX G ns, F.kp, ?_, hv⟩
  obtain ⟨oc, od, kV, doc, pm, an, cdv, ct, osl, rfl, lk, hcd⟩ := F.ex
  exact fun s us KI hl => hb s kV doc pm an cdv ct us KI hl
end
/-! ### isinstance(e, C), e a caught exception of an own class -/
structure ExcT (K : PySem.W.Frag) (D : Addr) : Prop where
  ga : PySem.W.findIn K (.ref D) "__getattribute__" = some (some (.builtin "BaseException.__getattribute__"))
  gn : PySem.W.findIn K (.ref D) "__getattr__" = some none
  cls : PySem.W.isClsIn K D = true
  ca : PySem.W.findIn K (.ref D) "__class__" = some (some (.builtin "object.__class__"))
  hn : PySem.W.specialIn K (.builtin "object.__class__") "__get__" = some (some (.builtin "getset_descriptor.__get__"))
  tk : PySem.W.takesIn K (.builtin "object.__class__") = some true
  mo : PySem.W.mroIn K D (.type "object") = some true
  mb : PySem.W.mroIn K D (.type "BaseException") = some true
section
variable {prog : Program} {w : World} {A : Around} {E : Value → Shared → Prop} {s : Shared} {K : PySem.W.Frag} {x D : Addr} {ox : Obj}
open PySem.W
end
/-- the class of a value, or of a caught exception -/
inductive TyX (K : PySem.W.Frag) (H : Hp) : V → Value → Prop
  | of {x : V} {t : Value} : TyOf K H x t → TyX K H x t
  | exc {a D : Addr} : H a = some (xHO a (.ref D)) → ExcT K D → TyX K H (.ref a) (.ref D)
inductive ClsV : V → Value → Prop
  | ref (C : Addr) : ClsV (.ref C) (.ref C)
  | ty (T : String) : ClsV (.ty T) (.type T)
def rIsiC (K : PySem.W.Frag) : List V → Hp → VK → Prop := fun xs H Q => ∃ x c t cv b, xs = [x, c] ∧ TyX K H x t ∧ ClsV c cv ∧ PySem.W.kitOne K t cv = some b ∧ Q (.bl b) H
section
variable {X : Cx}
/-- isinstance(e, T), T int, bool, str, list, tuple, dict -/
theorem pe_isT {e : Expr} {te : TE} {T : Str} {Tn : String} {p p2 pos : Pos} (hg : Gl X "isinstance") (hm : X.mg "isinstance" = none) (he : PE X e te) (hgT : Gl X T) (hmT : X.mg T = none) (hv : bootBuiltins T = some (.type Tn))
    (h1 : plainE e = true := by rfl) (hn : T ≠ "__name__" := by decide) (hdb : (T == ("__debug__" : Str)) = false := by decide) :
    PE X (.Call (.Name "isinstance" p) [e, .Name T p2] [] pos) (tCB (rIsi X.K) (tCons te (tCons (tC (.ty Tn)) tNil))) :=
  pe_cb call_isi hg hm boot_isinstance (pa_c he (pa_c (pe_bltn hgT hmT hv rfl hn hdb) pa_nil rfl) h1) (by rw [List.all_cons, h1]; rfl)
theorem ps_raiseP {x : Str} {C : Addr} {e : Expr} {es : List Expr} {t : TA} {E : XK} {np cpos pos : Pos} (hc : X.calm = true) (ht : Thrown X E) (hg : Gl X x) (hm : X.mg x = some (.ref C)) (ec : ExcK X.K C) (ha : PA X (e :: es) t)
    (h : (e :: es).all plainE = true := by rfl) (hdb : (x == ("__debug__" : Str)) = false := by decide) :
    PS X (.Raise (some (.Call (.Name x np) (e :: es) [] cpos)) none pos) (fun D σ H => t σ H fun vs H1 => vs.length ≤ sizeLine ∧ E (.ref C) none H1) := by
  have h' : plainE e = true ∧ es.all plainE = true := by rwa [List.all_cons, Bool.and_eq_true] at h
  exact ps_raise hc ht hg hm ec ha hdb (star_plain h'.1) (star_any h'.2)
end
end L2

set_option Elab.async false
set_option linter.all false
set_option maxRecDepth 100000
namespace L2
open PySem PySem.Spec PyProof.Rows
/-! ### the judgements, closed: nothing looks into them while a text is put together -/
structure QE (X : Cx) (e : Expr) (t : TE) : Prop where
  h : PE X e t
structure QT (X : Cx) (e : Expr) (t : TT) : Prop where
  h : PT X e t
structure QW (X : Cx) (e : Expr) (t : TT) : Prop where
  h : PW X e t
structure QA (X : Cx) (es : List Expr) (t : TA) : Prop where
  h : PA X es t
structure QS (X : Cx) (st : Stmt) (t : TS) : Prop where
  h : PS X st t
structure QB (X : Cx) (st : List Stmt) (t : TS) : Prop where
  h : PSs X st t
structure QG (X : Cx) (tg : Expr) (t : TG) : Prop where
  h : PG X tg t
structure QI (X : Cx) (tg iter : Expr) (t : TI) : Prop where
  h : PI X tg iter t
theorem body_of {X : Cx} {body : List Stmt} {t : TS} {D : Ends} {σ : St} {H : Hp} (h1 : QB X body t) (h2 : t D σ H) : ∃ t, PSs X body t ∧ t D σ H := ⟨t, h1.h, h2⟩
def noComp : Expr → Bool
  | .ListComp .. => false
  | .SetComp .. => false
  | .DictComp .. => false
  | _ => true
theorem swaps_no {e : Expr} {tg : Option Expr} {n : Nat} {env : Env} (h : noComp e = true) : swapsWith e tg n env = pure false := by
  cases e <;> first | rfl | cases h
section
variable {X : Cx} {K : PySem.W.Frag}
theorem kmul (h : X.K = K) : OpR X (binaryOp .Mult) (rMulA K) := h ▸ op_mulA
theorem keq (h : X.K = K) (hu : X.A.units + 64 < cLine) : OpR X (compareOp .Eq) (rEqA K) := h ▸ op_eqA hu
theorem kne (h : X.K = K) (hu : X.A.units + 64 < cLine) : OpR X (compareOp .NotEq) (rNeA K) := h ▸ op_neA hu
theorem kin (h : X.K = K) : OpR X (compareOp .In) (rInA K) := h ▸ op_inA
def rNotInA (K : PySem.W.Frag) : R2 := fun x y H Q => rIn K true x y H Q ∨ (∃ i j, x = .str i ∧ y = .str j ∧ Q (.bl (!(!(Builtin.Str.occurrences j i 0 j.length 1).isEmpty))) H)
theorem kix (h : X.K = K) : IxR X (rIx K) := h ▸ ix_seq
theorem klen (h : X.K = K) : CallR X (.builtin "len") (rLenA K) := h ▸ call_lenA
def rListOf (K : PySem.W.Frag) : List V → Hp → VK → Prop := fun xs H Q => ∃ p ys, xs = [.ref p] ∧ (SqL K H p ys ∨ SqT K H p ys) ∧ ∀ l, H l = none → Q (.ref l) (upd H l (.lst ys))
def rTupOf (K : PySem.W.Frag) : List V → Hp → VK → Prop := fun xs H Q => ∃ p ys, xs = [.ref p] ∧ ((SqL K H p ys ∧ ∀ l, H l = none → Q (.ref l) (upd H l (.tup ys))) ∨ (SqT K H p ys ∧ Q (.ref p) H))
end
/-- the names' values, written out -/
theorem st_norm {T : St → Hp → Prop} {σ σ' : St} {H : Hp} (e : σ = σ') (h : T σ' H) : T σ H := e ▸ h
/-! ### the rules, each with its side conditions in one last premise s -/
section
variable {X : Cx} {a b c e : Expr} {es rest : List Expr} {ta tb tc te : TE} {t : TA} {pos : Pos} {tA tB' : TT} {st : Stmt} {sts bd : List Stmt} {tx ty : TS}
theorem q_int {i j} : QE X (.Constant (.int i) j pos) (tC (.int i)) := ⟨pe_int⟩
theorem q_bl {v j} : QE X (.Constant (.bool v) j pos) (tC (.bl v)) := ⟨pe_bl⟩
theorem q_non {j} : QE X (.Constant .none j pos) (tC .non) := ⟨pe_non⟩
theorem q_str {x j} : QE X (.Constant (.str x) j pos) (tC (.str x)) := ⟨pe_str⟩
theorem q_var {i : Nat} {x : Str} (s : X.N[i]? = some x ∧ Vis X.env.scope x ∧ (x == ("__debug__" : Str)) = false ∧ (x == ("__classdict__" : Str)) = false) : QE X (.Name x pos) (tVar i) := ⟨pe_var s.1 s.2.1 s.2.2.1 s.2.2.2⟩
theorem q_gref {x : Str} {c : Addr} (s : X.mg x = some (.ref c) ∧ Gl X x ∧ (x == ("__debug__" : Str)) = false) : QE X (.Name x pos) (tC (.ref c)) := ⟨pe_gref s.2.1 s.1 s.2.2⟩
theorem q_nil : QA X [] tNil := ⟨pa_nil⟩
theorem q_cons (ha : QE X e te) (hr : QA X es t) (s : plainE e = true) : QA X (e :: es) (tCons te t) := ⟨pa_c ha.h hr.h s⟩
theorem q_call {CX : CXT} {k : Nat} {x : Str} {ps : List Str} {dvs : List V} {sp : Sp} {Es : St → XK} {p : Pos} (ha : QA X (e :: es) t)
    (s : CalD X.prog X.w X.K X.mg X.base CX k x ps dvs sp ∧ Room k X.A ∧ Gl X x ∧ PassesX CX X Es ∧ (e :: es).all plainE = true ∧ (x == ("__debug__" : Str)) = false) : QE X (.Call (.Name x p) (e :: es) [] pos) (tCallX sp dvs Es t) :=
  ⟨pe_cf s.1 s.2.1 s.2.2.1 s.2.2.2.1 ha.h s.2.2.2.2.1 s.2.2.2.2.2⟩
theorem q_cb {id : String} {r : List V → Hp → VK → Prop} {x : Str} {p : Pos} (ha : QA X (e :: es) t)
    (s : CallR X (.builtin id) r ∧ X.mg x = none ∧ bootBuiltins x = some (.builtin id) ∧ Gl X x ∧ (e :: es).all plainE = true ∧ x ≠ "__name__" ∧ (x == ("__debug__" : Str)) = false) : QE X (.Call (.Name x p) (e :: es) [] pos) (tCB r t) :=
  ⟨pe_cb s.1 s.2.2.2.1 s.2.1 s.2.2.1 ha.h s.2.2.2.2.1 s.2.2.2.2.2.1 s.2.2.2.2.2.2⟩
theorem q_ct {T : String} {r : List V → Hp → VK → Prop} {x : Str} {p : Pos} (ha : QA X (e :: es) t)
    (s : CallR X (.type T) r ∧ X.mg x = none ∧ bootBuiltins x = some (.type T) ∧ Gl X x ∧ (e :: es).all plainE = true ∧ x ≠ "__name__" ∧ (x == ("__debug__" : Str)) = false) : QE X (.Call (.Name x p) (e :: es) [] pos) (tCB r t) :=
  ⟨pe_ct s.1 s.2.2.2.1 s.2.1 s.2.2.1 ha.h s.2.2.2.2.1 s.2.2.2.2.2.1 s.2.2.2.2.2.2⟩
theorem q_isT {T : Str} {Tn : String} {p p2 : Pos} {K : PySem.W.Frag} (he : QE X e te) (s : X.K = K ∧ X.mg "isinstance" = none ∧ X.mg T = none ∧ bootBuiltins T = some (.type Tn) ∧ Gl X "isinstance" ∧ Gl X T ∧ plainE e = true ∧ T ≠ "__name__" ∧ (T == ("__debug__" : Str)) = false) :
    QE X (.Call (.Name "isinstance" p) [e, .Name T p2] [] pos) (tCB (rIsi K) (tCons te (tCons (tC (.ty Tn)) tNil))) := by
  obtain ⟨rfl, s⟩ := s
  exact ⟨pe_isT s.2.2.2.1 s.1 he.h s.2.2.2.2.1 s.2.1 s.2.2.1 s.2.2.2.2.2.1 s.2.2.2.2.2.2.1 s.2.2.2.2.2.2.2⟩
theorem q_op {op : Operator} {r : R2} (ha : QE X a ta) (hb : QE X b tb) (s : OpR X (binaryOp op) r) : QE X (.BinOp a op b pos) (tOp r ta tb) := ⟨pe_op s ha.h hb.h⟩
theorem q_un {op : UnaryOp} {r : V → Hp → VK → Prop} (ha : QE X a ta) (s : UnR X (unaryOp op) r) : QE X (.UnaryOp op a pos) (tUn r ta) := ⟨pe_un s ha.h⟩
theorem q_cmp {op : CmpOp} {r : R2} (ha : QE X a ta) (hb : QE X b tb) (s : OpR X (compareOp op) r ∧ behindInMarks op b = false) : QE X (.Compare a [op] [b] pos) (tOp r ta tb) := ⟨pe_cmpR s.1 ha.h hb.h s.2⟩
theorem q_ix {r : R2} (ha : QE X a ta) (hb : QE X b tb) (s : IxR X r ∧ PlainIx b) : QE X (.Subscript a b pos) (tOp r ta tb) := ⟨pe_ix s.1 ha.h hb.h s.2⟩
theorem q_not (ha : QE X a ta) : QE X (.UnaryOp .Not a pos) (tNotV ta) := ⟨pe_not ha.h⟩
theorem q_one {op} (h : QE X a ta) : QE X (.BoolOp op [a] pos) ta := ⟨pe_one h.h⟩
theorem q_and (ha : QE X a ta) (hb : QE X (.BoolOp .And (b :: rest) pos) tb) : QE X (.BoolOp .And (a :: b :: rest) pos) (tAndV ta tb) := ⟨pe_and ha.h hb.h⟩
theorem q_ifx (hc : QT X c tA) (ha : QE X a ta) (hb : QE X b tb) : QE X (.IfExp c a b pos) (tIf tA ta tb) := ⟨pe_ifExp hc.h ha.h hb.h⟩
/-! tests -/
theorem q_tcmp {op : CmpOp} {r : R2} (ha : QE X a ta) (hb : QE X b tb) (s : OpR X (compareOp op) r ∧ behindInMarks op b = false) : QT X (.Compare a [op] [b] pos) (tTest (tOp r ta tb)) := ⟨pt_cmpR s.1 ha.h hb.h s.2⟩
theorem q_tv (h : QE X e te) (s : ∀ whole, isTrue e X.env whole = (do let v ← whole; standAt e.pos; holding [v] (truthy v))) : QT X e (tB te) := ⟨pt_val h.h s⟩
theorem q_bool (h : QW X e tA) : QT X e tA := ⟨h.h.pt⟩
theorem q_tnot (ha : QT X a tA) : QT X (.UnaryOp .Not a pos) (tNot tA) := ⟨pt_not ha.h⟩
theorem q_wand1 (ha : QT X a tA) : QW X (.BoolOp .And [a] pos) tA := ⟨pw_and1 ha.h⟩
theorem q_wor1 (ha : QT X a tA) : QW X (.BoolOp .Or [a] pos) tA := ⟨pw_or1 ha.h⟩
theorem q_wand (ha : QT X a tA) (hb : QW X (.BoolOp .And (b :: rest) pos) tB') : QW X (.BoolOp .And (a :: b :: rest) pos) (tAnd tA tB') := ⟨pw_and ha.h hb.h⟩
theorem q_wor (ha : QT X a tA) (hb : QW X (.BoolOp .Or (b :: rest) pos) tB') : QW X (.BoolOp .Or (a :: b :: rest) pos) (tOr tA tB') := ⟨pw_or ha.h hb.h⟩
/-! statements -/
theorem q_end : QB X [] tNext := ⟨pss_nil⟩
theorem q_then (h1 : QS X st tx) (h2 : QB X sts ty) : QB X (st :: sts) (tSeq tx ty) := ⟨pss_cons h1.h h2.h⟩
theorem q_last (h1 : QS X st tx) : QB X [st] tx := ⟨pss_one h1.h⟩
theorem q_ret (he : QE X e te) : QS X (.Return (some e) pos) (tRet te) := ⟨ps_ret he.h⟩
theorem q_if (hc : QT X c tA) (ha : QB X sts tx) (hb : QB X bd ty) : QS X (.If c sts bd pos) (tIfS tA tx ty) := ⟨ps_if hc.h ha.h hb.h⟩
theorem q_expr (he : QE X e te) (s : noComp e = true) : QS X (.Expr e pos) (tDrop te) := ⟨ps_expr he.h (swaps_no s)⟩
theorem q_set {i : Nat} {x : Str} {pos' : Pos} (he : QE X e te) (s : X.N.Nodup ∧ X.N[i]? = some x ∧ Loc X.env.scope x ∧ noComp e = true ∧ (X.fn x = true ∨ X.env.scope.names.lookup x = some .local)) :
    QS X (.Assign [.Name x pos'] e pos) (tAsg te (gName i)) := ⟨ps_set s.1 s.2.1 s.2.2.1 he.h (swaps_no s.2.2.2.1) s.2.2.2.2⟩
theorem q_name {i : Nat} {x : Str} (s : X.N.Nodup ∧ X.N[i]? = some x ∧ Loc X.env.scope x ∧ (X.fn x = true ∨ X.env.scope.names.lookup x = some .local)) : QG X (.Name x pos) (gName i) := ⟨pg_name s.1 s.2.1 s.2.2.1 s.2.2.2⟩
theorem q_for {tg iter : Expr} {wi : TI} {g : TG} (hi : QI X tg iter wi) (hg : QG X tg g) (hb : QB X sts tx)
    (s : PassesOwn (model X.prog X.w) X.A X.env X.xe ∧ X.calm = true ∧ ∀ x, foldedSetIterable iter X.env x = pure x) : QS X (.For tg iter sts [] pos) (tFor wi g tx) := ⟨ps_for s.1 s.2.1 hi.h hg.h hb.h s.2.2⟩
theorem q_while (hc : QT X c tA) (hb : QB X sts tx) (s : PassesOwn (model X.prog X.w) X.A X.env X.xe) : QS X (.While c sts [] pos) (tWhile tA tx) := ⟨ps_while s hc.h hb.h⟩
theorem q_iseq {tg : Expr} {K : PySem.W.Frag} (hl : QE X e te) (s : X.K = K) : QI X tg e (iSeq K te) := s ▸ ⟨pi_seq hl.h⟩
theorem q_raise {x : Str} {C : Addr} {E : XK} {np cpos : Pos} (ha : QA X (e :: es) t) (s : X.calm = true ∧ Thrown X E ∧ Gl X x ∧ X.mg x = some (.ref C) ∧ ExcK X.K C ∧ (e :: es).all plainE = true ∧ (x == ("__debug__" : Str)) = false) :
    QS X (.Raise (some (.Call (.Name x np) (e :: es) [] cpos)) none pos) (fun D σ H => t σ H fun vs H1 => vs.length ≤ sizeLine ∧ E (.ref C) none H1) := ⟨ps_raiseP s.1 s.2.1 s.2.2.1 s.2.2.2.1 s.2.2.2.2.1 ha.h s.2.2.2.2.2.1 s.2.2.2.2.2.2⟩
end
end L2

set_option Elab.async false
set_option linter.all false
set_option maxRecDepth 100000
namespace L2
open PySem PySem.Spec PyProof.Rows
/-! ### reversed(list): the list stays while it is walked -/
def Itv (K : PySem.W.Frag) (a : Addr) (n : Nat) : It :=
  ⟨fun i H => ∃ xs x, SqL K H a xs ∧ xs.length = n ∧ i < n ∧ xs[n - 1 - i]? = some x, fun i H x H' => H' = H ∧ ∀ xs, SqL K H a xs → xs[n - 1 - i]? = some x, fun i _ => n ≤ i⟩
def iRev (K : PySem.W.Frag) (ta : TA) : TI := fun σ H R => ta σ H fun vs H1 => ∃ a xs, vs = [.ref a] ∧ SqL K H1 a xs ∧ R (Itv K a xs.length) H1
section
variable {X : Cx} {tg : Expr}
end
/-! ### the closed rules, further -/
structure QGs (X : Cx) (ts : List Expr) (t : TGs) : Prop where
  h : PGs X ts t
structure QO (X : Cx) (e : Option Expr) (t : TO) : Prop where
  h : PO X e t
structure QIf (X : Cx) (ifs : List Expr) (t : TT) : Prop where
  h : PIf X ifs t
theorem assignEach_plain {e : Expr} {es : List Expr} {env : Env} (h : plainE e = true) : assignEach (e :: es) env = (false, assign e env) :: assignEach es env := by
  cases e <;> first | rfl | cases h
theorem assignEach_len {env : Env} : ∀ {es : List Expr}, es.all plainE = true → (assignEach es env).length = es.length ∧ (assignEach es env).findIdx? (·.1) = none
  | [], _ => ⟨rfl, rfl⟩
  | e :: es, h => by
    rw [List.all_cons, Bool.and_eq_true] at h
    obtain ⟨h1, h2⟩ := assignEach_len (env := env) h.2
    rw [assignEach_plain h.1]
    refine ⟨by rw [List.length_cons, List.length_cons, h1], ?_⟩
    rw [List.findIdx?_cons]
    simp [h2]
section
variable {X : Cx} {a b c e : Expr} {es rest : List Expr} {ta tb tc te : TE} {t : TA} {pos : Pos} {K : PySem.W.Frag}
theorem q_irange1 {tg : Expr} {p : Pos} (ha : QA X [a] t) (s : X.mg "range" = none ∧ Gl X "range" ∧ plainE a = true) : QI X tg (.Call (.Name "range" p) [a] [] pos) (iRng1 t) := ⟨pi_range1 s.2.1 s.1 ha.h (star_plain s.2.2)⟩
theorem q_gnil : QGs X [] gNil := ⟨pgs_nil⟩
theorem q_gcons {g : TG} {u : TGs} (h1 : QG X e g) (h2 : QGs X es u) (s : plainE e = true) : QGs X (e :: es) (gCons g u) := ⟨pgs_cons h1.h h2.h (by rw [assignEach_plain s]; rfl)⟩
theorem q_gtup {k : Nat} {u : TGs} (h : QGs X es u) (s : X.K = K ∧ X.calm = true ∧ es.all plainE = true) : QG X (.Tuple es k pos) (gTup K es.length u) := by
  obtain ⟨rfl, s⟩ := s
  exact ⟨pg_tup s.1 h.h (assignEach_len s.2).1 (assignEach_len s.2).2⟩
/-- (x, y, ..) = e, e no tuple display -/
theorem q_onone : QO X none tNoPart := ⟨po_none⟩
theorem q_osome (h : QE X e te) : QO X (some e) (tPart te) := ⟨po_some h.h⟩
def rSlA (K : PySem.W.Frag) : V → Option Int → Option Int → Hp → VK → Prop := fun x lo hi H Q => rSlL K x lo hi H Q ∨ rSlT K x lo hi H Q
theorem q_slice {lo hi : Option Expr} {tl th : TO} {p2 : Pos} (he : QE X e te) (hl : QO X lo tl) (hu : QO X hi th) (s : X.K = K) : QE X (.Subscript e (.Slice lo hi none p2) pos) (tSl (rSlA K) te tl th) := by
  subst s
  exact ⟨pe_slice (show SlR X (rSlA X.K) from sl_A) he.h hl.h hu.h⟩
/-! comprehensions -/
theorem q_ifnil : QIf X [] tTrue := ⟨pif_nil⟩
theorem q_ifone {tx : TT} (h : QT X c tx) : QIf X [c] tx := ⟨pif_one h.h⟩
theorem q_comp {elt iter : Expr} {ifs : List Expr} {x : Str} {tp : Pos} {i0 : Nat} {N' : List Str} {ix : List (Option Nat)} {scope : Scope} {tx : TT} {wi : TI} (hi : QI X (.Name x tp) iter wi) (hif : ∀ cl C s2 H2 fp, QIf (cxComp X N' scope cl C s2 H2 fp) ifs tx) (helt : ∀ cl C s2 H2 fp, QE (cxComp X N' scope cl C s2 H2 fp) elt te)
    (s : compOkB X.env.scope X.N N' scope ix = true ∧ X.calm = true ∧ N'[i0]? = some x ∧ ix[i0]? = some none ∧ scope.names.lookup x = some .local ∧ ∀ y, foldedSetIterable iter X.env y = pure y) :
    QE X (.ListComp elt [⟨.Name x tp, iter, ifs, 0⟩] scope pos) (tComp wi ix i0 tx te) :=
  ⟨pe_comp (compOk_of s.1) s.2.1 s.2.2.1 s.2.2.2.1 s.2.2.2.2.1 hi.h (fun cl C s2 H2 fp => (hif cl C s2 H2 fp).h) (fun cl C s2 H2 fp => (helt cl C s2 H2 fp).h) s.2.2.2.2.2⟩
end
end L2

set_option Elab.async false
set_option linter.all false
set_option maxRecDepth 100000
namespace L2
open PySem PySem.Spec PyProof.Rows
/-! ### objects: methods by the class that is met, making, attributes -/
/-- a method of the class at C, and its promise -/
structure MOk (P : Program) (w : World) (K : PySem.W.Frag) (mg : Str → Option Value) (base : Heap) (CX : CXT) (k : Nat) (C : Addr) (m : Str) (dvs : List V) (sp : Sp) : Prop where
  ex : ∃ f fd ps ds, Cls K C ∧ Meth K C m f ∧ FnOk P w K mg base CX k f fd ps sp ∧ Binds K fd ps ds ∧ Vals dvs ds
/-- o.m(..): R says which promise the class that is met gives -/
def tMethD (R : Addr → List V → Sp → Prop) (m : Str) (Es : St → XK) (ta : TE) (t : TA) : TE := fun σ H Q => ta σ H fun x H1 => ∃ a C dx fs dvs sp, x = .ref a ∧ H1 a = some (.ins C dx fs) ∧ fs.lookup m = none ∧ R C dvs sp ∧
  t σ H1 fun vs H2 => sp (x :: (vs ++ dvs)) H2 Q (Es σ)
theorem star_all {pos : Pos} {env : Env} : ∀ {es : List Expr}, es.all plainE = true → (backTo pos (starEach es env)).all (fun x => !x.1) = true
  | [], _ => rfl
  | e :: es, h => by
    rw [List.all_cons, Bool.and_eq_true] at h
    rw [star_plain h.1]
    have := star_all (pos := pos) (env := env) h.2
    unfold backTo at this ⊢
    rw [List.map_cons, List.all_cons, this]
    rfl
section
variable {X : Cx} {o e : Expr} {es : List Expr} {m x : Str} {apos pos p : Pos} {ta : TE} {t : TA} {CX : CXT} {k : Nat} {Es : St → XK} {R : Addr → List V → Sp → Prop}
theorem pe_methD {pl : Sem Bool} (he : PE X o ta) (ha : PA X (e :: es) t) (hR : ∀ C dvs sp, R C dvs sp → MOk X.prog X.w X.K X.mg X.base CX k C m dvs sp) (hr : Room k X.A) (hx : PassesX CX X Es) (hp : (e :: es).all plainE = true)
    (ht : eval (.Call (.Attribute o m apos) (e :: es) [] pos) X.env = (do
      let ov ← eval o X.env
      standAt apos.atName
      let (f, first) ← holding [ov] (getMethod ov m pl)
      callWith pos f first (backTo pos (starEach (e :: es) X.env)) (backToKw pos (keywordEach [] X.env)))) :
    PE X (.Call (.Attribute o m apos) (e :: es) [] pos) (tMethD R m Es ta t) := by
  intro pins s σ H Q I h
  have hp' : plainE e = true ∧ es.all plainE = true := by rwa [List.all_cons, Bool.and_eq_true] at hp
  refine PySem.W.methodCall_KW (pl := pl) (thn (he pins s σ H _ I h) fun u s1 ⟨x, H1, I1, rx, a, C, dx, fs, dvs, sp, ex, ea, l, r, q⟩ => ?_) ht
  subst ex
  obtain rfl : u = Value.ref a := rx
  obtain ⟨f, fd, ps, ds, c, hm, F, hb, hd⟩ := (hR C dvs sp r).ex
  refine getmeth_ok I1 ea c hm l ?_
  refine PySem.W.callWith_K (first := [.ref a]) (h₀ := X.base) I.ok.mod.kin hm.kp (thn (ha pos pins s1 σ H1 _ I1 q) fun us s2 ⟨vs, H2, I2, r, q2⟩ => ⟨I2.kIn, ?_⟩) (star_plain hp'.1) (star_any hp'.2)
  exact run_fnX (us := .ref a :: us) (vs := .ref a :: vs) F hr hb hd hx I2 (.cons rfl r) q2
theorem pe_methD0 {pl : Sem Bool} (he : PE X o ta) (hR : ∀ C dvs sp, R C dvs sp → MOk X.prog X.w X.K X.mg X.base CX k C m dvs sp) (hr : Room k X.A) (hx : PassesX CX X Es)
    (ht : eval (.Call (.Attribute o m apos) [] [] pos) X.env = (do
      let ov ← eval o X.env
      standAt apos.atName
      let (f, first) ← holding [ov] (getMethod ov m pl)
      callWith pos f first (backTo pos (starEach [] X.env)) (backToKw pos (keywordEach [] X.env)))) :
    PE X (.Call (.Attribute o m apos) [] [] pos) (tMethD R m Es ta tNil) := by
  intro pins s σ H Q I h
  refine PySem.W.methodCall_KW (pl := pl) (thn (he pins s σ H _ I h) fun u s1 ⟨x, H1, I1, rx, a, C, dx, fs, dvs, sp, ex, ea, l, r, q⟩ => ?_) ht
  subst ex
  obtain rfl : u = Value.ref a := rx
  obtain ⟨f, fd, ps, ds, c, hm, F, hb, hd⟩ := (hR C dvs sp r).ex
  refine getmeth_ok I1 ea c hm l ?_
  exact PySem.W.callWith_K0 (first := [.ref a]) I1.kIn hm.kp (run_fnX (us := [.ref a]) (vs := [.ref a]) F hr hb hd hx I1 (.cons rfl .nil) q)
theorem q_meth {pl : Sem Bool} (he : QE X o ta) (ha : QA X (e :: es) t) (s : (∀ C dvs sp, R C dvs sp → MOk X.prog X.w X.K X.mg X.base CX k C m dvs sp) ∧ Room k X.A ∧ PassesX CX X Es ∧ (e :: es).all plainE = true ∧ eval (.Call (.Attribute o m apos) (e :: es) [] pos) X.env = (do
      let ov ← eval o X.env
      standAt apos.atName
      let (f, first) ← holding [ov] (getMethod ov m pl)
      callWith pos f first (backTo pos (starEach (e :: es) X.env)) (backToKw pos (keywordEach [] X.env)))) : QE X (.Call (.Attribute o m apos) (e :: es) [] pos) (tMethD R m Es ta t) :=
  ⟨pe_methD he.h ha.h s.1 s.2.1 s.2.2.1 s.2.2.2.1 s.2.2.2.2⟩
theorem q_meth0 {pl : Sem Bool} (he : QE X o ta) (s : (∀ C dvs sp, R C dvs sp → MOk X.prog X.w X.K X.mg X.base CX k C m dvs sp) ∧ Room k X.A ∧ PassesX CX X Es ∧ eval (.Call (.Attribute o m apos) [] [] pos) X.env = (do
      let ov ← eval o X.env
      standAt apos.atName
      let (f, first) ← holding [ov] (getMethod ov m pl)
      callWith pos f first (backTo pos (starEach [] X.env)) (backToKw pos (keywordEach [] X.env)))) : QE X (.Call (.Attribute o m apos) [] [] pos) (tMethD R m Es ta tNil) :=
  ⟨pe_methD0 he.h s.1 s.2.1 s.2.2.1 s.2.2.2⟩
/-- a class that is made by its __init__ (or a base's), and the promise of that -/
structure MkOk (P : Program) (w : World) (K : PySem.W.Frag) (mg : Str → Option Value) (base : Heap) (CX : CXT) (k : Nat) (x : Str) (C : Addr) (dvs : List V) (sp : Sp) : Prop where
  ex : ∃ f fd ps ds, Mk K C f ∧ FnOk P w K mg base CX k f fd ps sp ∧ Binds K fd ps ds ∧ Vals dvs ds ∧ mg x = some (.ref C)
theorem passes0 {P : Program} {w : World} : Passes (CXE P w) X E0 := fun _ _ _ _ _ _ _ h => (exE h).elim
/-- C() of a class without an __init__ -/
structure MkN (K : PySem.W.Frag) (C : Addr) : Prop where
  makes : PySem.W.makesIn K C = true
  init : PySem.W.findIn K (.ref C) "__init__" = some (some (.builtin "object.__init__"))
  kp : PySem.W.keepIn K (.ref C) = true
def tMakeN (C : Addr) : TE := fun _ H Q => ∀ x dx, H x = none → H dx = none → dx ≠ x → Q (.ref x) (upd (upd H dx (.own x)) x (.ins C dx []))
/-! attributes -/
theorem q_fld {K : PySem.W.Frag} {f : Str} (he : QE X e ta) (s : X.K = K ∧ attributeBase e f X.env (eval e X.env) = eval e X.env) : QE X (.Attribute e f pos) (tFld K ta f) := by
  obtain ⟨rfl, s⟩ := s
  exact ⟨pe_fld he.h s⟩
theorem q_sfld {K : PySem.W.Frag} {f : Str} {tv : TE} (hv : QE X e tv) (ho : QE X o ta) (s : X.K = K ∧ noComp e = true) : QS X (.Assign [.Attribute o f p] e pos) (sFld K ta tv f) := by
  obtain ⟨rfl, s⟩ := s
  exact ⟨ps_fld ho.h hv.h (swaps_no s)⟩
/-! methods of Python's own values -/
theorem q_bm {K : PySem.W.Frag} {T id : String} {r : V → List V → Hp → VK → Prop} (ho : QE X o ta) (ha : QA X (e :: es) t) (s : X.K = K ∧ MtR X id r ∧ PlainAttrs T ∧ Slot T m id ∧ typeOf (.builtin id) = pure (.type "method_descriptor") ∧ attributeBase o m X.env (eval o X.env) = eval o X.env ∧
      (apos.endLine == pos.line) = true ∧ (e :: es).all plainE = true ∧ decide ((e :: es).length + ([] : List Keyword).length + (if ([] : List Keyword).isEmpty then 0 else 1) < 30) = true) : QE X (.Call (.Attribute o m apos) (e :: es) [] pos) (tBM K T r ta t) := by
  obtain ⟨rfl, hm, pa, sl, ty, hb, hl, hp, hn⟩ := s
  have hp' : plainE e = true ∧ es.all plainE = true := by rwa [List.all_cons, Bool.and_eq_true] at hp
  exact ⟨pe_bm pa sl ty hm ho.h ha.h hb (by rw [star_all hp, hn]; rfl) hl (star_plain hp'.1) (star_any hp'.2)⟩
/-! None -/
end
end L2

set_option Elab.async false
set_option linter.all false
set_option maxRecDepth 100000
namespace L2
open PySem PySem.Spec PyProof.Rows
/-! ### branches -/
theorem iteEq {i j : Int} {A B : Prop} (h1 : i = j → A) (h2 : i ≠ j → B) : if decide (V.int i = V.int j) = true then A else B := by
  by_cases h : i = j
  · rw [if_pos (decide_eq_true (by rw [h]))]
    exact h1 h
  · rw [if_neg (fun z => h (by injection of_decide_eq_true z))]
    exact h2 h
theorem iteNe {i j : Int} {A B : Prop} (h1 : i ≠ j → A) (h2 : i = j → B) : if (!decide (V.int i = V.int j)) = true then A else B := by
  by_cases h : i = j
  · rw [h, decide_eq_true rfl]
    exact iteF (h2 h)
  · rw [decide_eq_false (fun z => h (by injection z))]
    exact iteT (h1 h)
theorem iteB {b : Bool} {A B : Prop} (h1 : b = true → A) (h2 : b = false → B) : if b = true then A else B := by
  cases b with
  | true => exact iteT (h1 rfl)
  | false => exact iteF (h2 rfl)
theorem iteD {c A B : Prop} [Decidable c] (h1 : c → A) (h2 : ¬ c → B) : if decide c = true then A else B := by
  by_cases h : c
  · rw [if_pos (decide_eq_true h)]
    exact h1 h
  · rw [if_neg (fun z => h (of_decide_eq_true z))]
    exact h2 h
theorem iteND {c A B : Prop} [Decidable c] (h1 : ¬ c → A) (h2 : c → B) : if (!decide c) = true then A else B := by
  by_cases h : c
  · rw [decide_eq_true h]
    exact iteF (h2 h)
  · rw [decide_eq_false h]
    exact iteT (h1 h)
/-- an own class whose objects are asked by isinstance -/
structure InsT (K : PySem.W.Frag) (C : Addr) : Prop where
  cl : Cls K C
  ca : PySem.W.findIn K (.ref C) "__class__" = some (some (.builtin "object.__class__"))
  hn : PySem.W.specialIn K (.builtin "object.__class__") "__get__" = some (some (.builtin "getset_descriptor.__get__"))
  tk : PySem.W.takesIn K (.builtin "object.__class__") = some true
  mo : PySem.W.mroIn K C (.type "object") = some true
theorem InsT.ty {K : PySem.W.Frag} {C a dx : Addr} {H : Hp} {fs : List (Str × V)} (t : InsT K C) (e : H a = some (.ins C dx fs)) : TyX K H (.ref a) (.ref C) := .of (.ins e t.cl t.ca t.hn t.tk t.mo)
/-! ### what is made new: behind it a heap in which all is as it was, and the new thing -/
def New (H : Hp) (p : Addr) (o : HO) (H' : Hp) : Prop := H p = none ∧ Same H H' ∧ H' p = some o
theorem New.mk' {H : Hp} {p : Addr} {o : HO} (hp : H p = none) : New H p o (upd H p o) := ⟨hp, same_new hp, upd_same⟩
def tLstA (t : TA) : TE := fun σ H Q => t σ H fun xs H1 => xs.length ≤ sizeLine ∧ ∀ p H2, New H1 p (.lst xs) H2 → Q (.ref p) H2
def tTupA (t : TA) : TE := fun σ H Q => t σ H fun xs H1 => xs.length ≤ sizeLine ∧ ∀ p H2, New H1 p (.tup xs) H2 → Q (.ref p) H2
/-- a weaker reading -/
theorem PE.imp {X : Cx} {e : Expr} {t t' : TE} (h : PE X e t) (i : ∀ σ H Q, t' σ H Q → t σ H Q) : PE X e t' := fun pins s σ H Q I q => h pins s σ H Q I (i σ H Q q)
/-- an argument list's reading may be followed by something weaker -/
def MonoA (t : TA) : Prop := ∀ σ H Q Q', (∀ vs H1, Q vs H1 → Q' vs H1) → t σ H Q → t σ H Q'
theorem OpR.imp {X : Cx} {f : Value → Value → Sem Value} {r r' : R2} (h : OpR X f r) (i : ∀ x y H Q, r' x y H Q → r x y H Q) : OpR X f r' := fun pins s σ H x y v u Q I rx ry q => h pins s σ H x y v u Q I rx ry (i x y H Q q)
theorem CallR.imp {X : Cx} {f : Value} {r r' : List V → Hp → VK → Prop} (h : CallR X f r) (i : ∀ xs H Q, r' xs H Q → r xs H Q) : CallR X f r' := fun pins s σ H xs us Q I rs q => h pins s σ H xs us Q I rs (i xs H Q q)
def rCatLB : R2 := fun x y H Q => ∃ l b xs zs, x = .ref l ∧ y = .ref b ∧ H l = some (.lst xs) ∧ H b = some (.lst zs) ∧ xs.length + zs.length ≤ sizeLine ∧ ∀ p H', New H p (.lst (xs ++ zs)) H' → Q (.ref p) H'
def rCatTB : R2 := fun x y H Q => ∃ a b xs ys, x = .ref a ∧ y = .ref b ∧ H a = some (.tup xs) ∧ H b = some (.tup ys) ∧ xs.length + ys.length ≤ sizeLine ∧ ∀ p H', Same H H' → H' p = some (.tup (xs ++ ys)) → Q (.ref p) H'
def rAddB (K : PySem.W.Frag) : R2 := fun x y H Q => rI0 (fun i j => .int (i + j)) x y H Q ∨ rCatTB x y H Q ∨ rCatLB x y H Q ∨ (∃ i j, x = .str i ∧ y = .str j ∧ i.length + j.length ≤ sizeLine ∧ Q (.str (i ++ j)) H)
def rListB (K : PySem.W.Frag) : List V → Hp → VK → Prop := fun xs H Q => ∃ p ys, xs = [.ref p] ∧ (SqL K H p ys ∨ SqT K H p ys) ∧ ∀ l H', New H l (.lst ys) H' → Q (.ref l) H'
def rTupB (K : PySem.W.Frag) : List V → Hp → VK → Prop := fun xs H Q => ∃ p ys, xs = [.ref p] ∧ ((SqL K H p ys ∧ ∀ l H', New H l (.tup ys) H' → Q (.ref l) H') ∨ (SqT K H p ys ∧ Q (.ref p) H))
/-- C(..): a new instance and its dict -/
def NewI (H : Hp) (x dx C : Addr) (H' : Hp) : Prop := H x = none ∧ H dx = none ∧ dx ≠ x ∧ Same H H' ∧ H' x = some (.ins C dx []) ∧ H' dx = some (.own x)
theorem NewI.mk' {H : Hp} {x dx C : Addr} (hx : H x = none) (hd : H dx = none) (n : dx ≠ x) : NewI H x dx C (upd (upd H dx (.own x)) x (.ins C dx [])) := by
  refine ⟨hx, hd, n, fun b o e => ?_, upd_same, ?_⟩
  · rw [upd_ne (ne_of_none e hx), upd_ne (ne_of_none e hd)]
    exact e
  · rw [upd_ne n, upd_same]
def tMakeA (C : Addr) (sp : Sp) (dvs : List V) (t : TA) : TE := fun σ H Q => t σ H fun vs H1 => ∀ x dx H2, NewI H1 x dx C H2 → sp (.ref x :: (vs ++ dvs)) H2 (fun v H3 => v = .non ∧ Q (.ref x) H3) E0
def tMakeNA (C : Addr) : TE := fun _ H Q => ∀ x dx H2, NewI H x dx C H2 → Q (.ref x) H2
section
variable {X : Cx} {K : PySem.W.Frag} {e : Expr} {es : List Expr} {t : TA} {pos p : Pos} {x : Str} {k : Nat}
theorem q_lstA (h : QA X es t) : QE X (.List es pos) (tLstA t) := by
  refine ⟨fun pins s σ H Q I hq => ?_⟩
  refine wpAny_List_spliced (thn (h.h pos pins s σ H _ I hq) fun us s1 ⟨xs, H1, I1, r, z, q⟩ => ⟨by rw [← r.length]; exact z, ?_⟩)
  have hf : H1 s1.heap.objs.size = none := I1.hok.fresh (Nat.le_refl _)
  refine ⟨.ref s1.heap.objs.size, upd H1 s1.heap.objs.size (.lst xs), I1.laid (t' := s1.toks) (fun b u e => Heap.get?_push_of_some _ e) (Nat.le_refl _) ?_, rfl, q _ _ (New.mk' hf)⟩
  exact ⟨z, us, 0, r, Heap.get?_push_size _ rfl⟩
theorem q_tupA {x1} (h : QA X es t) : QE X (.Tuple es x1 pos) (tTupA t) := by
  refine ⟨fun pins s σ H Q I hq => ?_⟩
  refine wpAny_Tuple_spliced (thn (h.h pos pins s σ H _ I hq) fun us s1 ⟨xs, H1, I1, r, z, q⟩ => ⟨by rw [← r.length]; exact z, ?_⟩)
  have hf : H1 s1.heap.objs.size = none := I1.hok.fresh (Nat.le_refl _)
  refine ⟨.ref s1.heap.objs.size, upd H1 s1.heap.objs.size (.tup xs), I1.laid (t' := s1.toks) (fun b u e => Heap.get?_push_of_some _ e) (Nat.le_refl _) ?_, rfl, q _ _ (New.mk' hf)⟩
  exact ⟨z, us, r, ⟨_, Heap.get?_push_size _ rfl, rfl, _, rfl⟩⟩
theorem kaddB (h : X.K = K) : OpR X (binaryOp .Add) (rAddB K) := by
  subst h
  refine (op_addA (X := X)).imp fun x y H Q q => ?_
  rcases q with q | ⟨a, b, xs, ys, rfl, rfl, ha, hb, hz, q⟩ | ⟨l, b, xs, zs, rfl, rfl, h1, h2, hz, q⟩ | q
  · exact .inl q
  · refine .inr (.inl ⟨a, b, xs, ys, rfl, rfl, SqT.of ha, SqT.of hb, hz, fun e => ?_, fun _ e => ?_, fun _ _ p hp => ?_⟩)
    · subst e
      exact q b H (Same.refl H) hb
    · subst e
      exact q a H (Same.refl H) (by rw [List.append_nil]; exact ha)
    · exact q p _ (same_new hp) upd_same
  · exact .inr (.inr (.inl ⟨l, b, xs, zs, rfl, rfl, h1, h2, hz, fun p hp => q p _ (New.mk' hp)⟩))
  · exact .inr (.inr (.inr q))
theorem klistB (h : X.K = K) : CallR X (.type "list") (rListB K) := by
  subst h
  refine (call_list_of (X := X)).imp fun xs H Q q => ?_
  obtain ⟨p, ys, rfl, hs, q⟩ := q
  exact ⟨p, ys, rfl, hs, fun l hl => q l _ (New.mk' hl)⟩
theorem ktupleB (h : X.K = K) : CallR X (.type "tuple") (rTupB K) := by
  subst h
  refine (call_tuple_of (X := X)).imp fun xs H Q q => ?_
  obtain ⟨p, ys, rfl, q⟩ := q
  refine ⟨p, ys, rfl, ?_⟩
  rcases q with ⟨hs, q⟩ | ⟨hs, q⟩
  · exact .inl ⟨hs, fun l hl => q l _ (New.mk' hl)⟩
  · exact .inr ⟨hs, q⟩
theorem q_makeA {C : Addr} {dvs : List V} {sp : Sp} (ha : QA X (e :: es) t) (s : MkOk X.prog X.w X.K X.mg X.base (CXE X.prog X.w) k x C dvs sp ∧ Room (k + 1) X.A ∧ Gl X x ∧ (e :: es).all plainE = true ∧ (x == ("__debug__" : Str)) = false) :
    QE X (.Call (.Name x p) (e :: es) [] pos) (tMakeA C sp dvs t) := by
  obtain ⟨⟨f, fd, ps, ds, M, F, hb, hd, hm⟩, hr, hg, hp, hdb⟩ := s
  have hp' : plainE e = true ∧ es.all plainE = true := by rwa [List.all_cons, Bool.and_eq_true] at hp
  refine ⟨fun pins s σ H Q I h => ?_⟩
  refine wpAny_Call_Name_kw (ld_glob I hg hm ?_ hdb)
  refine PySem.W.callWith_K (h₀ := X.base) I.ok.mod.kin M.kp (thn (ha.h pos pins s σ H _ I h) fun us s1 ⟨vs, H1, I1, r, q⟩ => ⟨I1.kIn, ?_⟩) (star_plain hp'.1) (star_any hp'.2)
  exact run_make M F hr hb hd passes0 I1 r fun y dy h1 h2 h3 => q y dy _ (NewI.mk' h1 h2 h3)
end
end L2

set_option Elab.async false
set_option linter.all false
set_option maxRecDepth 100000
namespace L2
open PySem PySem.Spec PyProof.Rows
/-! ### what the top has written: classes, methods, in bundles -/
structure TopCls (K : PySem.W.Frag) (x : Str) (c : Addr) : Prop where
  ns : PySem.W.nsIn K mainGlobals x = some (some (.ref c))
  ins : InsT K c
theorem topCls_mk {K : PySem.W.Frag} {x : Str} {c : Addr} (a : PySem.W.nsIn K mainGlobals x = some (some (.ref c))) (pg : PySem.W.plainGet K c Str.empty = true) (hd : PySem.W.hasDictIn K c = true) (po : PySem.W.plainOver K c = true)
    (sa : PySem.W.findIn K (.ref c) "__setattr__" = some (some (.builtin "object.__setattr__"))) (ca : PySem.W.findIn K (.ref c) "__class__" = some (some (.builtin "object.__class__")))
    (hn : PySem.W.specialIn K (.builtin "object.__class__") "__get__" = some (some (.builtin "getset_descriptor.__get__"))) (tk : PySem.W.takesIn K (.builtin "object.__class__") = some true) (mo : PySem.W.mroIn K c (.type "object") = some true) : TopCls K x c :=
  ⟨a, ⟨⟨pg, hd, po, sa⟩, ca, hn, tk, mo⟩⟩
/-- a method (found in the class at c, or in a base), its text, its defaults -/
def MthF (K : PySem.W.Frag) (c : Addr) (m qual : Str) (st : Stmt) (dV : Value) : Prop := ∃ f fd, Meth K c m f ∧ FunD K m qual st f fd dV
theorem mthF_mk {K : PySem.W.Frag} {c f : Addr} {m qual : Str} {st : Stmt} {oc : Value} {od an : Option Addr} {osl : Array (Option Value)} {dV kV doc pm cdv ct : Value} (a : PySem.W.findIn K (.ref c) m = some (some (.ref f))) (i : PySem.W.isFn K (.ref f) = true)
    (l : K.lookup f = some ⟨oc, od, .func (PySem.W.fnOf m qual (defArgs st) (defBody st) (defScope st) dV kV doc pm an cdv ct), osl⟩) (cd : PySem.W.codeIn K cdv qual = true) (k : PySem.W.keepIn K (.ref f) = true) : MthF K c m qual st dV :=
  ⟨f, _, ⟨a, i, k⟩, ⟨⟨oc, od, kV, doc, pm, an, cdv, ct, osl, rfl, l, cd⟩, k⟩⟩
/-- the __init__ of the class at c -/
def InitF (K : PySem.W.Frag) (c : Addr) (qual : Str) (st : Stmt) (dV : Value) : Prop := ∃ f fd, Mk K c f ∧ FunD K "__init__" qual st f fd dV
theorem initF_mk {K : PySem.W.Frag} {c f : Addr} {qual : Str} {st : Stmt} {oc : Value} {od an : Option Addr} {osl : Array (Option Value)} {dV kV doc pm cdv ct : Value} (mk : PySem.W.makesIn K c = true) (a : PySem.W.findIn K (.ref c) "__init__" = some (some (.ref f))) (i : PySem.W.isFn K (.ref f) = true) (kc : PySem.W.keepIn K (.ref c) = true)
    (l : K.lookup f = some ⟨oc, od, .func (PySem.W.fnOf "__init__" qual (defArgs st) (defBody st) (defScope st) dV kV doc pm an cdv ct), osl⟩) (cd : PySem.W.codeIn K cdv qual = true) (k : PySem.W.keepIn K (.ref f) = true) : InitF K c qual st dV :=
  ⟨f, _, ⟨mk, a, i, kc⟩, ⟨⟨oc, od, kV, doc, pm, an, cdv, ct, osl, rfl, l, cd⟩, k⟩⟩
section
variable {P : Program} {w : World} {K : PySem.W.Frag} {mg : Str → Option Value} {base h : Heap}
/-- the defaults' tuple -/
def DfV (K : PySem.W.Frag) (dV : Value) (ds : List Value) : Prop := (dV = .none ∧ ds = []) ∨ ∃ T c d n sl, dV = .ref T ∧ K.lookup T = some ⟨c, d, .seq ds.toArray n, sl⟩
theorem FunD.ok0 {x qual : Str} {st : Stmt} {f : Addr} {fd : FuncData} {dV : Value} {N ps : List Str} {k : Nat} {sp : Sp} (F : FunD K x qual st f fd dV) (S : FnScope N ps (defScope st)) (len : ∀ vs H Q E, sp vs H Q E → vs.length = ps.length)
    (hbody : ∀ (cdv : Value) (A : Around) (outer : List Env) (s : Shared) (H : Hp) (vs : List V) (Q : VK) (E : XK), Room k (A.deeper (envOfC qual (defScope st) s.heap.objs.size f cdv)) → sp vs H Q E →
      ∃ t, PSs (cxOf CX0 P w K mg base N qual (defScope st) f cdv A outer s H E).nox (defBody st) t ∧ t { nx := fun _ H' => Q .non H', rt := Q } (start N vs) H) : FnOk P w K mg base (CXE P w) (k + 1) f fd ps sp := by
  obtain ⟨oc, od, kV, doc, pm, an, cdv, ct, osl, rfl, lk, hcd⟩ := F.ex
  refine FnOk.toE (fn_of lk hcd S len fun A outer s H vs Q E hr hsp => ?_)
  obtain ⟨t, h, q⟩ := hbody cdv A outer s H vs Q E hr hsp
  exact ⟨t, h.nox, q⟩
theorem MthF.ok {c : Addr} {m qual : Str} {st : Stmt} {dV : Value} {k : Nat} {ps : List Str} {sp : Sp} {dvs : List V} {ds : List Value} (t : MthF K c m qual st dV) (cl : Cls K c) (ok : ∀ f fd, FunD K m qual st f fd dV → FnOk P w K mg base (CXE P w) k f fd ps sp)
    (hb : ∀ (s : Shared) (kV doc pm : Value) (an : Option Addr) (cdv ct : Value) (us : List Value), K.In s.heap → (us ++ ds).length = ps.length → BindsTo s (PySem.W.fnOf m qual (defArgs st) (defBody st) (defScope st) dV kV doc pm an cdv ct) ⟨us, []⟩ (ps.zip (us ++ ds))) (hv : Vals dvs ds) :
    MOk P w K mg base (CXE P w) k c m dvs sp := by
  obtain ⟨f, fd, M, F⟩ := t
  refine ⟨f, fd, ps, ds, cl, M, ok f fd F, ?_, hv⟩
  obtain ⟨oc, od, kV, doc, pm, an, cdv, ct, osl, rfl, lk, hcd⟩ := F.ex
  exact fun s us KI hl => hb s kV doc pm an cdv ct us KI hl
theorem InitF.ok {c : Addr} {x qual : Str} {st : Stmt} {dV : Value} {k : Nat} {ps : List Str} {sp : Sp} {dvs : List V} {ds : List Value} (t : InitF K c qual st dV) (hm : mg x = some (.ref c)) (ok : ∀ f fd, FunD K "__init__" qual st f fd dV → FnOk P w K mg base (CXE P w) k f fd ps sp)
    (hb : ∀ (s : Shared) (kV doc pm : Value) (an : Option Addr) (cdv ct : Value) (us : List Value), K.In s.heap → (us ++ ds).length = ps.length → BindsTo s (PySem.W.fnOf "__init__" qual (defArgs st) (defBody st) (defScope st) dV kV doc pm an cdv ct) ⟨us, []⟩ (ps.zip (us ++ ds))) (hv : Vals dvs ds) :
    MkOk P w K mg base (CXE P w) k x c dvs sp := by
  obtain ⟨f, fd, M, F⟩ := t
  refine ⟨f, fd, ps, ds, M, ok f fd F, ?_, hv, hm⟩
  obtain ⟨oc, od, kV, doc, pm, an, cdv, ct, osl, rfl, lk, hcd⟩ := F.ex
  exact fun s us KI hl => hb s kV doc pm an cdv ct us KI hl
end
end L2

set_option Elab.async false
set_option linter.all false
set_option maxRecDepth 100000
namespace L2
open PySem PySem.Spec PyProof.Rows
/-! ### tests and values that make and change nothing: no second way -/
def PureT (t : TT) (σ : St) (H : Hp) (b : Bool) : Prop := ∀ Q, Q b H → t σ H Q
def PureE (t : TE) (σ : St) (H : Hp) (v : V) : Prop := ∀ Q : VK, Q v H → t σ H Q
theorem PureT.and {t u : TT} {σ : St} {H : Hp} {a b : Bool} (h1 : PureT t σ H a) (h2 : PureT u σ H b) : PureT (tAnd t u) σ H (a && b) := fun Q q => h1 _ (by
  cases a with
  | true => exact iteT (h2 Q q)
  | false => exact iteF q)
theorem PureT.or {t u : TT} {σ : St} {H : Hp} {a b : Bool} (h1 : PureT t σ H a) (h2 : PureT u σ H b) : PureT (tOr t u) σ H (a || b) := fun Q q => h1 _ (by
  cases a with
  | true => exact iteT q
  | false => exact iteF (h2 Q q))
theorem PureT.not {t : TT} {σ : St} {H : Hp} {a : Bool} (h1 : PureT t σ H a) : PureT (tNot t) σ H (!a) := fun Q q => h1 _ q
theorem PureT.val {t : TE} {σ : St} {H : Hp} {a : Bool} (h1 : PureE t σ H (.bl a)) : PureT (tB t) σ H a := fun Q q => h1 _ ⟨a, rfl, q⟩
theorem PureT.op {r : R2} {ta tb : TE} {σ : St} {H : Hp} {x y : V} {c : Bool} (h1 : PureE ta σ H x) (h2 : PureE tb σ H y) (h : ∀ Q : VK, Q (.bl c) H → r x y H Q) : PureT (tTest (tOp r ta tb)) σ H c := fun Q q => h1 _ (h2 _ (h _ ⟨c, rfl, q⟩))
theorem PureE.op {r : R2} {ta tb : TE} {σ : St} {H : Hp} {x y v : V} (h1 : PureE ta σ H x) (h2 : PureE tb σ H y) (h : ∀ Q : VK, Q v H → r x y H Q) : PureE (tOp r ta tb) σ H v := fun Q q => h1 _ (h2 _ (h _ q))
theorem PureE.or {ta tb : TE} {σ : St} {H : Hp} {a b : Bool} (h1 : PureE ta σ H (.bl a)) (h2 : PureE tb σ H (.bl b)) : PureE (tOrV ta tb) σ H (.bl (a || b)) := fun Q q => h1 _ ⟨a, rfl, by
  cases a with
  | true => exact iteT q
  | false => exact iteF (h2 Q q)⟩
theorem PureE.and {ta tb : TE} {σ : St} {H : Hp} {a b : Bool} (h1 : PureE ta σ H (.bl a)) (h2 : PureE tb σ H (.bl b)) : PureE (tAndV ta tb) σ H (.bl (a && b)) := fun Q q => h1 _ ⟨a, rfl, by
  cases a with
  | true => exact iteT (h2 Q q)
  | false => exact iteF q⟩
end L2

set_option Elab.async false
set_option linter.all false
set_option maxRecDepth 100000
set_option maxHeartbeats 1000000
/-! in and not in, of data in a list or tuple of data -/
namespace L2
open PySem
section
variable {X : Cx} {K : PySem.W.Frag}
def rInD (K : PySem.W.Frag) (neg : Bool) : R2 := fun x y H Q => ∃ d es, Rep K H x d ∧ (Rep K H y (.list es) ∨ Rep K H y (.tuple es)) ∧ SeqAt.shaped d = true ∧ SeqAt.shaped (.list es) = true ∧ Q (.bl (if neg then !es.any (fun e => PyData.eqv e d) else es.any (fun e => PyData.eqv e d))) H
theorem shaped_items {es : List PyData} (h : SeqAt.shaped (.list es) = true) : PyData.canLayAll0 es = true ∧ PyData.depthAll es + 1 ≤ 64 := by
  have h1 := SeqAt.canLay_of_shaped h
  have h2 := SeqAt.depth_of_shaped h
  simp only [PyData.canLay0, PyData.depth] at h1 h2
  exact ⟨h1, by omega⟩
theorem op_inD (hu : X.A.units + 64 < cLine) : OpR X (compareOp .In) (rInD X.K false) := by
  intro pins s σ H x y v u Q I rx ry h
  obtain ⟨d, es, r1, r2, h1, h2, q⟩ := h
  obtain ⟨as, ra⟩ := I.reads r1 rx
  have h3 := shaped_items h2
  rcases r2 with r2 | r2 <;> obtain ⟨bs, rb⟩ := I.reads r2 ry
  · exact SeqAt.in_list_reads rb ra h3.1 (SeqAt.canLay_of_shaped h1) (by omega) ⟨.bl _, H, I, rfl, q⟩
  · exact SeqAt.in_tuple_reads rb ra h3.1 (SeqAt.canLay_of_shaped h1) (by omega) ⟨.bl _, H, I, rfl, q⟩
/-- all the ways of in -/
def rInB (K : PySem.W.Frag) : R2 := fun x y H Q => rInA K x y H Q ∨ rInD K false x y H Q
def rNotInB (K : PySem.W.Frag) : R2 := fun x y H Q => rNotInA K x y H Q ∨ rInD K true x y H Q
theorem kinB (h : X.K = K) (hu : X.A.units + 64 < cLine) : OpR X (compareOp .In) (rInB K) := (kin h).or (h ▸ op_inD hu)
end
end L2

set_option Elab.async false
set_option linter.all false
set_option maxRecDepth 100000
namespace L2
open PySem PySem.Spec PyProof.Rows
/-! ### C.m(..): a function read at its class -/
structure CMeth (K : PySem.W.Frag) (C : Addr) (m : Str) (f : Addr) : Prop where
  ga : PySem.W.specialIn K (.ref C) "__getattribute__" = some (some (.builtin "type.__getattribute__"))
  rd : PySem.W.readsIn K C (.type "type") = true
  at_ : PySem.W.findCls K (.ref C) (.type "type") m = some (.val (.ref f))
  kp : PySem.W.keepIn K (.ref f) = true
structure CMOk (P : Program) (w : World) (K : PySem.W.Frag) (mg : Str → Option Value) (base : Heap) (CX : CXT) (k : Nat) (x m : Str) (dvs : List V) (sp : Sp) : Prop where
  ex : ∃ C f fd ps ds, CMeth K C m f ∧ FnOk P w K mg base CX k f fd ps sp ∧ Binds K fd ps ds ∧ Vals dvs ds ∧ mg x = some (.ref C)
section
variable {X : Cx} {e : Expr} {es : List Expr} {m x : Str} {apos pos p : Pos} {t : TA} {CX : CXT} {k : Nat} {Es : St → XK}
end
/-- the class named x, its m, the text -/
def CMthF (K : PySem.W.Frag) (x m qual : Str) (st : Stmt) (dV : Value) : Prop := ∃ C f fd, PySem.W.nsIn K mainGlobals x = some (some (.ref C)) ∧ CMeth K C m f ∧ FunD K m qual st f fd dV
theorem cmthF_mk {K : PySem.W.Frag} {x : Str} {c f : Addr} {m qual : Str} {st : Stmt} {oc : Value} {od an : Option Addr} {osl : Array (Option Value)} {dV kV doc pm cdv ct : Value} (n : PySem.W.nsIn K mainGlobals x = some (some (.ref c))) (a : PySem.W.findIn K (.ref c) m = some (some (.ref f)))
    (ga : PySem.W.specialIn K (.ref c) "__getattribute__" = some (some (.builtin "type.__getattribute__"))) (rd : PySem.W.readsIn K c (.type "type") = true) (fc : PySem.W.findCls K (.ref c) (.type "type") m = some (.val (.ref f)))
    (l : K.lookup f = some ⟨oc, od, .func (PySem.W.fnOf m qual (defArgs st) (defBody st) (defScope st) dV kV doc pm an cdv ct), osl⟩) (cd : PySem.W.codeIn K cdv qual = true) (k : PySem.W.keepIn K (.ref f) = true) : CMthF K x m qual st dV :=
  ⟨c, f, _, n, ⟨ga, rd, fc, k⟩, ⟨⟨oc, od, kV, doc, pm, an, cdv, ct, osl, rfl, l, cd⟩, k⟩⟩
/-- a method that n classes have from one base, its text, its defaults -/
def MthA (K : PySem.W.Frag) (n : Nat) (cs : Nat → Addr) (m qual : Str) (st : Stmt) (dV : Value) : Prop := ∃ f fd, (∀ i, i < n → Meth K (cs i) m f) ∧ FunD K m qual st f fd dV
theorem mthA_mk {K : PySem.W.Frag} {n : Nat} {cs : Nat → Addr} {f : Addr} {m qual : Str} {st : Stmt} {oc : Value} {od an : Option Addr} {osl : Array (Option Value)} {dV kV doc pm cdv ct : Value} (a : PySem.W.findIn K (.ref (cs 0)) m = some (some (.ref f))) (i : PySem.W.isFn K (.ref f) = true)
    (l : K.lookup f = some ⟨oc, od, .func (PySem.W.fnOf m qual (defArgs st) (defBody st) (defScope st) dV kV doc pm an cdv ct), osl⟩) (cd : PySem.W.codeIn K cdv qual = true) (k : PySem.W.keepIn K (.ref f) = true)
    (al : (List.range n).all (fun j => PySem.W.findIn K (.ref (cs j)) m == some (some (.ref f))) = true) : MthA K n cs m qual st dV :=
  ⟨f, _, fun j hj => ⟨beq_iff_eq.mp (List.all_eq_true.mp al j (List.mem_range.mpr hj)), i, k⟩, ⟨⟨oc, od, kV, doc, pm, an, cdv, ct, osl, rfl, l, cd⟩, k⟩⟩
section
variable {P : Program} {w : World} {K : PySem.W.Frag} {mg : Str → Option Value} {base h : Heap}
theorem CMthF.ok {x m qual : Str} {st : Stmt} {dV : Value} {k : Nat} {ps : List Str} {sp : Sp} {dvs : List V} {ds : List Value} (t : CMthF K x m qual st dV) (KX : K.In h) (G : h.Ns mainGlobals mg) (ok : ∀ f fd, FunD K m qual st f fd dV → FnOk P w K mg base (CXE P w) k f fd ps sp)
    (hb : ∀ (s : Shared) (kV doc pm : Value) (an : Option Addr) (cdv ct : Value) (us : List Value), K.In s.heap → (us ++ ds).length = ps.length → BindsTo s (PySem.W.fnOf m qual (defArgs st) (defBody st) (defScope st) dV kV doc pm an cdv ct) ⟨us, []⟩ (ps.zip (us ++ ds))) (hv : Vals dvs ds) :
    CMOk P w K mg base (CXE P w) k x m dvs sp := by
  obtain ⟨C, f, fd, n, M, F⟩ := t
  refine ⟨C, f, fd, ps, ds, M, ok f fd F, ?_, hv, PySem.W.mg_of KX G n⟩
  obtain ⟨oc, od, kV, doc, pm, an, cdv, ct, osl, rfl, lk, hcd⟩ := F.ex
  exact fun s us KI hl => hb s kV doc pm an cdv ct us KI hl
theorem MthA.ok {n : Nat} {cs : Nat → Addr} {m qual : Str} {st : Stmt} {dV : Value} {k : Nat} {ps : List Str} {sp : Nat → Sp} {dvs : List V} {ds : List Value} (t : MthA K n cs m qual st dV) (cl : ∀ i, i < n → Cls K (cs i)) (ok : ∀ i f fd, i < n → FunD K m qual st f fd dV → FnOk P w K mg base (CXE P w) k f fd ps (sp i))
    (hb : ∀ (s : Shared) (kV doc pm : Value) (an : Option Addr) (cdv ct : Value) (us : List Value), K.In s.heap → (us ++ ds).length = ps.length → BindsTo s (PySem.W.fnOf m qual (defArgs st) (defBody st) (defScope st) dV kV doc pm an cdv ct) ⟨us, []⟩ (ps.zip (us ++ ds))) (hv : Vals dvs ds) (i : Nat) (hi : i < n) :
    MOk P w K mg base (CXE P w) k (cs i) m dvs (sp i) := by
  obtain ⟨f, fd, M, F⟩ := t
  refine ⟨f, fd, ps, ds, cl i hi, M i hi, ok i f fd hi F, ?_, hv⟩
  obtain ⟨oc, od, kV, doc, pm, an, cdv, ct, osl, rfl, lk, hcd⟩ := F.ex
  exact fun s us KI hl => hb s kV doc pm an cdv ct us KI hl
end
end L2
namespace L2
open PySem PySem.Spec PyProof.Rows
/-! ### all(..) and any(..) of a list of truths -/
def rAll (K : PySem.W.Frag) : List V → Hp → VK → Prop := fun xs H Q => ∃ p bs, xs = [.ref p] ∧ SqL K H p ((bs : List Bool).map V.bl) ∧ Q (.bl (bs.all id)) H
def rAny (K : PySem.W.Frag) : List V → Hp → VK → Prop := fun xs H Q => ∃ p bs, xs = [.ref p] ∧ SqL K H p ((bs : List Bool).map V.bl) ∧ Q (.bl (bs.any id)) H
theorem bools_are : ∀ {bs : List Bool} {us : List Value}, Vals (bs.map V.bl) us → LSm.BoolsAre us bs
  | [], _, .nil => .nil
  | b :: bs, _, .cons r rs => by cases r; exact .cons b (bools_are rs)
theorem bb_any : bootBuiltins "any" = some (.builtin "any") := by kernel_rfl
section
variable {X : Cx} {K : PySem.W.Frag}
theorem call_any (hc : X.calm = true) : CallR X (.builtin "any") (rAny X.K) := by
  intro pins s σ H xs us Q I r h
  obtain ⟨p, bs, rfl, hq, q⟩ := h
  obtain ⟨u, rfl, rx⟩ := vals1 r
  cases rx
  obtain ⟨its, r', pl, hz⟩ := I.list hq
  have hb := bools_are r'
  have hl := pl.isList
  have hlt : p < s.heap.objs.size := by obtain ⟨_, e, _⟩ := hl; exact Heap.lt_size e
  refine call_any_walk (wpAny_pyIter_list hl ?_)
  refine ⟨s.heap.objs.size, [s.heap.objs.size, p], [s.heap.objs.size], its.toArray.size, _, _, fun i => (bs[i]?).getD false, rfl, Walks.list (A := X.A.in1) (I.ok.hd hc) _ p (Nat.ne_of_lt hlt) its.toArray,
    ⟨⟨_, Heap.get?_push_size _ rfl, rfl, rfl⟩, hl.push _⟩, fun i v s' Q' E' hP hQ => ?_, fun h' tk hk => ?_⟩
  · obtain ⟨b, e, rfl⟩ := hb.get i v (by simpa using hP)
    simp only [e, Option.getD_some] at hQ
    exact wpAny_truthy_bool hQ
  · have e : ((List.range its.toArray.size).any fun i => (bs[i]?).getD false) = bs.any id := by
      rw [List.size_toArray, hb.length]; exact LSm.range_any bs
    rw [e]
    exact ⟨.bl (bs.any id), H, I.kept (LSm.kept_iter hk), rfl, q⟩
theorem kany (h : X.K = K) (hc : X.calm = true) : CallR X (.builtin "any") (rAny K) := h ▸ call_any hc
end
end L2

set_option Elab.async false
set_option linter.all false
set_option maxRecDepth 100000
namespace L2
open PySem PySem.Spec PyProof.Rows
/-! ### comprehensions over a list or a tuple, elements and tests that make things anew and change nothing -/
theorem Same.updD {H1 H : Hp} {D : Addr} {o : HO} (hD : H1 D = none) (s : Same H1 H) : Same H1 (upd H D o) := fun b q e => by
  rw [upd_ne (ne_of_none e hD)]
  exact s _ _ e
theorem take_fm {f : V → Option V} {xs : List V} {i : Nat} {x : V} (ex : xs[i]? = some x) : (xs.take (i + 1)).filterMap f = (xs.take i).filterMap f ++ (f x).toList := by
  rw [List.take_add_one, ex, List.filterMap_append]
  have : List.filterMap f [x] = (f x).toList := by cases h : f x <;> simp [h]
  exact congrArg _ this
theorem comp_F {J : It} {D : Addr} {σ0 : St} {i0 : Nat} {tc : TT} {te : TE} {Q : VK} {H1 : Hp} (xs : List V) (f : V → Option V) (hD : H1 D = none) (hn : xs.length ≤ 1000000)
    (hgo : ∀ (i : Nat) x H, Same H1 H → xs[i]? = some x → J.go i H) (hst : ∀ H, Same H1 H → J.stop xs.length H) (hy : ∀ (i : Nat) x H H', Same H1 H → i < xs.length → J.yld i H x H' → H' = H ∧ xs[i]? = some x)
    (he : ∀ (i : Nat) x H (Qy : VK) (Qn : Hp → Prop), xs[i]? = some x → Same H1 H → (∀ H' y, Same H H' → f x = some y → Qy y H') → (∀ H', Same H H' → f x = none → Qn H') → tc (σ0.set i0 (some x)) H fun b H3 => if b = true then te (σ0.set i0 (some x)) H3 Qy else Qn H3)
    (hq : ∀ H', Same H1 H' → H' D = some (.lst (xs.filterMap f)) → Q (.ref D) H') :
    ∃ W : Nat → Nat → Hp → Prop, (∃ m, W 0 m (upd H1 D (.lst []))) ∧ compW J D σ0 i0 tc te Q W := by
  have hs : (1000000 : Nat) < sizeLine := by decide
  refine ⟨fun i m H => m = xs.length - i ∧ i ≤ xs.length ∧ Same H1 H ∧ H D = some (.lst ((xs.take i).filterMap f)), ⟨xs.length, by simp, Nat.zero_le _, same_new hD, by rw [upd_same]; rfl⟩, ?_⟩
  rintro i m H ⟨rfl, hi, sm, hd⟩
  by_cases hlt : i < xs.length
  · refine .inr ⟨hgo i xs[i] H sm (by simp [hlt]), fun x H' y => ?_⟩
    obtain ⟨e, ex⟩ := hy i x H H' sm hlt y
    subst e
    have et := take_fm (f := f) ex
    have hl : ((xs.take i).filterMap f).length ≤ i := Nat.le_trans (List.length_filterMap_le _ _) (by simp; omega)
    refine he i x _ _ _ ex sm (fun H2 z s2 hf => ?_) (fun H2 s2 hf => ?_)
    · rw [hf] at et
      exact ⟨_, s2 _ _ hd, by omega, xs.length - (i + 1), by omega, rfl, hlt, Same.updD hD (sm.trans s2), by rw [upd_same, et]; rfl⟩
    · rw [hf] at et
      exact ⟨xs.length - (i + 1), by omega, rfl, hlt, sm.trans s2, by rw [et]; simpa using s2 _ _ hd⟩
  · have e : i = xs.length := by omega
    subst e
    exact .inl ⟨hst H sm, hq H sm (by rw [List.take_length] at hd; exact hd)⟩
theorem comp_lstF {K : PySem.W.Frag} {a D : Addr} {σ0 : St} {i0 : Nat} {tc : TT} {te : TE} {Q : VK} {H1 : Hp} {xs : List V} (f : V → Option V) (hD : H1 D = none) (hl : SqL K H1 a xs) (hn : xs.length ≤ 1000000)
    (he : ∀ (i : Nat) x H (Qy : VK) (Qn : Hp → Prop), xs[i]? = some x → Same H1 H → (∀ H' y, Same H H' → f x = some y → Qy y H') → (∀ H', Same H H' → f x = none → Qn H') → tc (σ0.set i0 (some x)) H fun b H3 => if b = true then te (σ0.set i0 (some x)) H3 Qy else Qn H3)
    (hq : ∀ H', Same H1 H' → H' D = some (.lst (xs.filterMap f)) → Q (.ref D) H') :
    ∃ W : Nat → Nat → Hp → Prop, (∃ m, W 0 m (upd H1 D (.lst []))) ∧ compW (Itl K a) D σ0 i0 tc te Q W :=
  comp_F xs f hD hn (fun i x H s e => ⟨xs, x, s.seq hl, e⟩) (fun H s => ⟨xs, s.seq hl, Nat.le_refl _⟩) (fun i x H H' s _ y => ⟨y.1, y.2 xs (s.seq hl)⟩) he hq
/-! ### data that lies in the heap as it was made -/
mutual
inductive Dat (H : Hp) : V → PyData → Prop
  | non : Dat H .non .none
  | bl (b : Bool) : Dat H (.bl b) (.bool b)
  | int (i : Int) : Dat H (.int i) (.int i)
  | str (x : Str) : Dat H (.str x) (.str x)
  | lst {a : Addr} {xs : List V} {ds : List PyData} : H a = some (.lst xs) → Dats H xs ds → Dat H (.ref a) (.list ds)
  | tup {a : Addr} {xs : List V} {ds : List PyData} : H a = some (.tup xs) → Dats H xs ds → Dat H (.ref a) (.tuple ds)
inductive Dats (H : Hp) : List V → List PyData → Prop
  | nil : Dats H [] []
  | cons {x : V} {xs : List V} {d : PyData} {ds : List PyData} : Dat H x d → Dats H xs ds → Dats H (x :: xs) (d :: ds)
end
mutual
theorem Dat.rep {K : PySem.W.Frag} {H : Hp} : ∀ {x : V} {d : PyData}, Dat H x d → Rep K H x d
  | _, _, .non => .non
  | _, _, .bl b => .bl b
  | _, _, .int i => .int i
  | _, _, .str x => .str x
  | _, _, .lst h r => .lst (SqL.of h) r.reps
  | _, _, .tup h r => .tup (SqT.of h) r.reps
theorem Dats.reps {K : PySem.W.Frag} {H : Hp} : ∀ {xs : List V} {ds : List PyData}, Dats H xs ds → Reps K H xs ds
  | _, _, .nil => .nil
  | _, _, .cons a b => .cons a.rep b.reps
end
mutual
theorem Dat.keep {H H' : Hp} (s : Same H H') : ∀ {x : V} {d : PyData}, Dat H x d → Dat H' x d
  | _, _, .non => .non
  | _, _, .bl b => .bl b
  | _, _, .int i => .int i
  | _, _, .str x => .str x
  | _, _, .lst h r => .lst (s _ _ h) (r.keep s)
  | _, _, .tup h r => .tup (s _ _ h) (r.keep s)
theorem Dats.keep {H H' : Hp} (s : Same H H') : ∀ {xs : List V} {ds : List PyData}, Dats H xs ds → Dats H' xs ds
  | _, _, .nil => .nil
  | _, _, .cons a b => .cons (a.keep s) (b.keep s)
end
theorem Dats.length {H : Hp} : ∀ {xs : List V} {ds : List PyData}, Dats H xs ds → xs.length = ds.length
  | _, _, .nil => rfl
  | _, _, .cons _ b => by rw [List.length_cons, List.length_cons, b.length]
theorem Dats.get {H : Hp} : ∀ {xs : List V} {ds : List PyData} {i : Nat} {x : V}, Dats H xs ds → xs[i]? = some x → ∃ d, ds[i]? = some d ∧ Dat H x d
  | _, _, 0, _, .cons a b, e => by simp at e; subst e; exact ⟨_, rfl, a⟩
  | _, _, i + 1, _, .cons a b, e => by
    rw [List.getElem?_cons_succ] at e ⊢
    exact b.get e
/-- the name of data's type -/
def tyName : PyData → String
  | .none => "NoneType"
  | .bool _ => "bool"
  | .int _ => "int"
  | .str _ => "str"
  | .list _ => "list"
  | _ => "tuple"
theorem Dat.ty {K : PySem.W.Frag} {H : Hp} {x : V} {d : PyData} (h : Dat H x d) : TyN K H x (tyName d) := by
  cases h with
  | non => exact .non
  | bl b => exact .bl b
  | int i => exact .int i
  | str x => exact .str x
  | lst h r => exact .lst h
  | tup h r => exact .tup h
end L2

set_option Elab.async false
set_option linter.all false
set_option maxRecDepth 100000
namespace L2
open PySem PySem.Spec PyProof.Rows
/-! ### deeds, as data and as objects of four classes -/
inductive D where
  | read (a : Int) | write (a v : Int) | add (a v : Int) | swap (a o n : Int)
deriving DecidableEq
def D.vs : D → List V
  | .read a => [.str "read", .int a]
  | .write a v => [.str "write", .int a, .int v]
  | .add a v => [.str "add", .int a, .int v]
  | .swap a o n => [.str "swap", .int a, .int o, .int n]
def D.adr : D → Int
  | .read a => a | .write a _ => a | .add a _ => a | .swap a _ _ => a
def D.beh : D → Int → Int
  | .read _, x => x | .write _ v, _ => v | .add _ v, x => x + v | .swap _ o n, x => if x = o then n else x
def D.wish : D → V
  | .read _ => .str "read" | _ => .str "write"
def D.ix : D → Nat
  | .read _ => 0 | .write _ _ => 1 | .add _ _ => 2 | .swap _ _ _ => 3
def D.ds : D → List PyData
  | .read a => [.str "read", .int a]
  | .write a v => [.str "write", .int a, .int v]
  | .add a v => [.str "add", .int a, .int v]
  | .swap a o n => [.str "swap", .int a, .int o, .int n]
theorem D.dats {H : Hp} (d : D) : Dats H d.vs d.ds := by
  cases d with
  | read a => exact .cons (.str _) (.cons (.int a) .nil)
  | write a v => exact .cons (.str _) (.cons (.int a) (.cons (.int v) .nil))
  | add a v => exact .cons (.str _) (.cons (.int a) (.cons (.int v) .nil))
  | swap a o n => exact .cons (.str _) (.cons (.int a) (.cons (.int o) (.cons (.int n) .nil)))
theorem D.dat {H : Hp} {p : Addr} (d : D) (h : H p = some (.tup d.vs)) : Dat H (.ref p) (.tuple d.ds) := .tup h d.dats
theorem D.rep {K : PySem.W.Frag} {H : Hp} {p : Addr} (d : D) (h : H p = some (.tup d.vs)) : Rep K H (.ref p) (.tuple d.ds) := (d.dat h).rep
theorem D.all {n : Nat} (d : D) : ∀ e ∈ d.ds, Shp n e := by
  cases d with
  | read a => exact all1 (.str (by decide +kernel)) (all1 (.int a) all0)
  | write a v => exact all1 (.str (by decide +kernel)) (all1 (.int a) (all1 (.int v) all0))
  | add a v => exact all1 (.str (by decide +kernel)) (all1 (.int a) (all1 (.int v) all0))
  | swap a o n => exact all1 (.str (by decide +kernel)) (all1 (.int a) (all1 (.int o) (all1 (.int n) all0)))
theorem D.shp (d : D) : Shp 1 (.tuple d.ds) := .tup d.all
def D.tl : D → List Int
  | .read a => [a]
  | .write a v => [a, v]
  | .add a v => [a, v]
  | .swap a o n => [a, o, n]
theorem D.cut (d : D) : cutV d.vs (some 1) none = d.tl.map V.int := by
  have : ((1 : Int)) = ((1 : Nat) : Int) := rfl
  rw [this, cut_drop (by cases d <;> simp [D.vs])]
  cases d <;> rfl
theorem D.at1 (d : D) : atI d.vs 1 = some (.int d.adr) := by cases d <;> rfl
/-- what is a deed, told as data -/
def deedOf : PyData → Option D
  | .tuple [.str w, .int a] => if w = "read" ∧ 0 ≤ a then some (.read a) else none
  | .tuple [.str w, .int a, .int v] => if w = "write" ∧ 0 ≤ a then some (.write a v) else if w = "add" ∧ 0 ≤ a then some (.add a v) else none
  | .tuple [.str w, .int a, .int o, .int n] => if w = "swap" ∧ 0 ≤ a then some (.swap a o n) else none
  | _ => none
def isI : PyData → Bool
  | .int _ => true
  | _ => false
def isIV : V → Bool
  | .int _ => true
  | _ => false
theorem Dat.isI {H : Hp} {x : V} {d : PyData} (h : Dat H x d) : isIV x = L2.isI d := by cases h <;> rfl
/-- a word and how many parts: a kind's -/
def FormOk (w : Str) (n : Nat) : Prop := (w = "read" ∧ n = 2) ∨ (w = "write" ∧ n = 3) ∨ (w = "add" ∧ n = 3) ∨ (w = "swap" ∧ n = 4)
instance {w : Str} {n : Nat} : Decidable (FormOk w n) := inferInstanceAs (Decidable (_ ∨ _ ∨ _ ∨ _))
def formsD : List PyData := [.tuple [.str "read", .int 2], .tuple [.str "write", .int 3], .tuple [.str "add", .int 3], .tuple [.str "swap", .int 4]]
/-- what is no deed -/
def notD (H : Hp) (x : V) : Prop := ∃ d, Dat H x d ∧ Shp 3 d ∧ deedOf d = none
theorem notD.keep {H H' : Hp} {x : V} (h : notD H x) (s : Same H H') : notD H' x := let ⟨d, a, b, c⟩ := h; ⟨d, a.keep s, b, c⟩
/-- a deed as an object: its class by its kind, its tuple -/
def DeedAt (dc : Nat → Addr) (H : Hp) (a : Addr) (d : D) : Prop := ∃ dx p, H a = some (.ins (dc d.ix) dx [(("parts" : Str), .ref p)]) ∧ H p = some (.tup d.vs)
theorem DeedAt.keep {dc : Nat → Addr} {H H' : Hp} {a : Addr} {d : D} (h : DeedAt dc H a d) (s : Same H H') : DeedAt dc H' a d := let ⟨dx, p, e, f⟩ := h; ⟨dx, p, s _ _ e, s _ _ f⟩
theorem DeedAt.upd {dc : Nat → Addr} {H : Hp} {a p : Addr} {d : D} {xs ys : List V} (h : DeedAt dc H a d) (hp : H p = some (.lst xs)) : DeedAt dc (L2.upd H p (.lst ys)) a d := by
  obtain ⟨dx, q, e, f⟩ := h
  refine ⟨dx, q, ?_, ?_⟩
  · rw [upd_ne (ne_of e hp (by intro z; cases z))]
    exact e
  · rw [upd_ne (ne_of f hp (by intro z; cases z))]
    exact f
/-- the four classes -/
structure Dcl (K : PySem.W.Frag) (cD : Addr) (dc : Nat → Addr) : Prop where
  ins : ∀ i, i < 4 → InsT K (dc i)
  is : ∀ i, i < 4 → PySem.W.kitOne K (.ref (dc i)) (.ref cD) = some true
  np : ∀ i, i < 4 → NoAttr K (dc i) "parts"
def spM (dc : Nat → Addr) (r : D → Hp → VK → Prop) (i : Nat) : Sp := fun vs H Q _ => ∃ a d, vs = [.ref a] ∧ DeedAt dc H a d ∧ d.ix = i ∧ r d H Q
def rPlain (d : D) (H : Hp) (Q : VK) : Prop := ∀ p, H p = some (.tup d.vs) → Q (.ref p) H
def rPlace (d : D) (H : Hp) (Q : VK) : Prop := Q (.int d.adr) H
def rWants (d : D) (H : Hp) (Q : VK) : Prop := Q d.wish H
def spB (dc : Nat → Addr) (i : Nat) : Sp := fun vs H Q _ => ∃ a d v, vs = [.ref a, .int v] ∧ DeedAt dc H a d ∧ d.ix = i ∧ Q (.int (d.beh v)) H
def RD (dc : Nat → Addr) (sp : Nat → Sp) (C : Addr) (dvs : List V) (q : Sp) : Prop := ∃ i, i < 4 ∧ C = dc i ∧ dvs = [] ∧ q = sp i
def spDeedOf (dc : Nat → Addr) (cN : Addr) : Sp := fun vs H Q E => (∃ (p : Addr) (d : D), vs = [.ref p] ∧ H p = some (.tup d.vs) ∧ 0 ≤ d.adr ∧ ∀ a H', Same H H' → H a = none → DeedAt dc H' a d → Q (.ref a) H') ∨ ∃ x, vs = [x] ∧ notD H x ∧ ∀ H', Same H H' → E (.ref cN) none H'
/-! ### what the top has written: tuples, classes of errors -/
theorem sq_mk {K : PySem.W.Frag} {a : Addr} {od : Option Addr} {its : Array Value} {n : Nat} {sl : Array (Option Value)} {xs : List V} (l : K.lookup a = some ⟨.type "tuple", od, .seq its n, sl⟩) (hz : its.size ≤ sizeLine) (hv : Vals xs its.toList) : ∀ H, SqT K H a xs :=
  fun _ => .inr ⟨_, its, n, l, rfl, rfl, hz, hv⟩
theorem excK_mk {K : PySem.W.Frag} {C N : Addr} {nm q : Str} {bs tl : List Value} {hdct : Bool} {sn : List Str} {sub : List Value} {ab : Bool} {col : Option Bool} {dd : Option Addr} {k0 k1 k2 k3 k5 : Option Value} {oN : Obj}
    (l1 : K.lookup C = some (excClassObj nm q C N bs tl hdct sn sub ab col dd k0 k1 k2 k3 k5 "ValueError.__new__")) (l2 : K.lookup N = some oN) (b : nsKB oN = true) (t : TailK K tl) : ExcK K C :=
  ⟨nm, q, N, bs, tl, hdct, sn, sub, ab, col, dd, k0, k1, k2, k3, k5, oN, l1, l2, b, t⟩
def TupK2 (K : PySem.W.Frag) (b : Addr) (w : Str) (k : Int) : Prop := ∀ H, Rep K H (.ref b) (.tuple [.str w, .int k])
theorem tupK2_mk {K : PySem.W.Frag} {b : Addr} {w : Str} {k : Int} {od : Option Addr} {n : Nat} {t u : Tok} {sl : Array (Option Value)} (l : K.lookup b = some ⟨.type "tuple", od, .seq #[.str w t, .int k u] n, sl⟩) : TupK2 K b w k :=
  fun H => .tup (sq_mk (xs := [.str w, .int k]) l (by show 2 ≤ sizeLine; decide) (.cons ⟨_, rfl⟩ (.cons ⟨_, rfl⟩ .nil)) H) (.cons (.str _) (.cons (.int _) .nil))
def FormsK (K : PySem.W.Frag) (a : Addr) : Prop := ∀ H, Rep K H (.ref a) (.tuple formsD)
theorem formsK_mk {K : PySem.W.Frag} {a b0 b1 b2 b3 : Addr} {od : Option Addr} {n : Nat} {sl : Array (Option Value)} (l : K.lookup a = some ⟨.type "tuple", od, .seq #[.ref b0, .ref b1, .ref b2, .ref b3] n, sl⟩)
    (h0 : TupK2 K b0 "read" 2) (h1 : TupK2 K b1 "write" 3) (h2 : TupK2 K b2 "add" 3) (h3 : TupK2 K b3 "swap" 4) : FormsK K a :=
  fun H => .tup (sq_mk (xs := [.ref b0, .ref b1, .ref b2, .ref b3]) l (by show 4 ≤ sizeLine; decide) (.cons rfl (.cons rfl (.cons rfl (.cons rfl .nil)))) H) (.cons (h0 H) (.cons (h1 H) (.cons (h2 H) (.cons (h3 H) .nil))))
end L2

set_option Elab.async false
set_option linter.all false
set_option maxRecDepth 100000
namespace L2
open PySem PySem.Spec PyProof.Rows
/-! ### a op b op' c; x.bit_length() -/
section
variable {X : Cx} {a b c : Expr} {ta tb tc : TE} {pos : Pos}
theorem q_tchain {op op' : CmpOp} {r r' : R2} (ha : QE X a ta) (hb : QE X b tb) (hc : QE X c tc) (s : OpR X (compareOp op) r ∧ OpR X (compareOp op') r' ∧ lastMarks [op, op'] [b, c] = false) : QT X (.Compare a [op, op'] [b, c] pos) (tTest (tChain r r' ta tb tc)) := ⟨pt_chain s.1 s.2.1 ha.h hb.h hc.h s.2.2⟩
def tBits (t : TE) : TE := fun σ H Q => t σ H fun x H1 => ∃ i : Int, x = .int i ∧ Q (.int ((Builtin.Int.intBits i : Nat) : Int)) H1
theorem pe_bits {apos cpos : Pos} (ho : PE X a ta) (hbase : attributeBase a "bit_length" X.env (eval a X.env) = eval a X.env) (hline : (apos.endLine == cpos.line) = true) :
    PE X (.Call (.Attribute a "bit_length" apos) [] [] cpos) (tBits ta) := by
  intro pins s σ H Q I h
  refine wpAny_Call_method0_late hbase hline (thn (ho pins s σ H _ I h) fun v s1 ⟨x, H1, I1, r1, i, ex, q⟩ => ?_)
  subst ex
  obtain ⟨t', rfl⟩ := r1
  refine ⟨"int", "int.bit_length", PySem.F.plainAttrs_int, slot_int_bit_length, type_int_bit_length, typeIs_int _ _ _, (fun a e => by cases e), Calls.callWith_builtin rfl (PySem.evalArgs_none ?_)⟩
  exact call_int_bit_length ⟨.int _, H1, I1.tok _, ⟨_, rfl⟩, q⟩
theorem q_bits {apos cpos : Pos} (ho : QE X a ta) (s : attributeBase a "bit_length" X.env (eval a X.env) = eval a X.env ∧ (apos.endLine == cpos.line) = true) : QE X (.Call (.Attribute a "bit_length" apos) [] [] cpos) (tBits ta) := ⟨pe_bits ho.h s.1 s.2⟩
end
end L2
namespace L2
open PySem PySem.Spec PyProof.Rows
/-- a comprehension over a range, with a test -/
theorem comp_rangeF {n : Nat} {lo : Int} {D : Addr} {σ0 : St} {i0 : Nat} {tc : TT} {te : TE} {Q : VK} {H1 : Hp} (f : V → Option V) (hD : H1 D = none) (hn : n ≤ 1000000)
    (he : ∀ (i : Nat) H (Qy : VK) (Qn : Hp → Prop), i < n → Same H1 H → (∀ H' y, Same H H' → f (.int (lo + i)) = some y → Qy y H') → (∀ H', Same H H' → f (.int (lo + i)) = none → Qn H') → tc (σ0.set i0 (some (.int (lo + i)))) H fun b H3 => if b = true then te (σ0.set i0 (some (.int (lo + i)))) H3 Qy else Qn H3)
    (hq : ∀ H', Same H1 H' → H' D = some (.lst (((List.range n).map fun i => V.int (lo + (i : Nat))).filterMap f)) → Q (.ref D) H') :
    ∃ W : Nat → Nat → Hp → Prop, (∃ m, W 0 m (upd H1 D (.lst []))) ∧ compW (Itr lo n) D σ0 i0 tc te Q W := by
  have hl : ((List.range n).map fun i => V.int (lo + (i : Nat))).length = n := by rw [List.length_map, List.length_range]
  have at_ : ∀ i, i < n → ((List.range n).map fun i => V.int (lo + (i : Nat)))[i]? = some (V.int (lo + (i : Nat))) := fun i hi => by
    rw [List.getElem?_map, List.getElem?_range hi]
    rfl
  refine comp_F ((List.range n).map fun i => V.int (lo + (i : Nat))) f hD (by omega) (fun i x H _ e => ?_) (fun H _ => ?_) (fun i x H H' _ hi y => ?_) (fun i x H Qy Qn e sm h1 h2 => ?_) hq
  · have := (List.getElem?_eq_some_iff.mp e).1
    rw [hl] at this
    exact this
  · rw [hl]
    exact Nat.le_refl n
  · rw [hl] at hi
    exact ⟨y.1, y.2 ▸ at_ i hi⟩
  · have hi := (List.getElem?_eq_some_iff.mp e).1
    rw [hl] at hi
    obtain rfl : V.int (lo + (i : Nat)) = x := Option.some.inj ((at_ i hi).symm.trans e)
    exact he i H Qy Qn hi sm h1 h2
end L2

set_option Elab.async false
set_option linter.all false
set_option maxRecDepth 100000
namespace L2
open PySem PySem.Spec PyProof.Rows
/-! ### comprehensions whose elements make things: what holds of the list so far -/
theorem comp_R {J : It} {D : Addr} {σ0 : St} {i0 : Nat} {tc : TT} {te : TE} {Q : VK} {H1 : Hp} (xs : List V) (R : Nat → List V → Hp → Prop) (hD : H1 D = none) (hn : xs.length ≤ 1000000)
    (hgo : ∀ (i : Nat) x H, Same H1 H → xs[i]? = some x → J.go i H) (hst : ∀ H, Same H1 H → J.stop xs.length H) (hy : ∀ (i : Nat) x H H', Same H1 H → i < xs.length → J.yld i H x H' → H' = H ∧ xs[i]? = some x)
    (h0 : ∀ H, Same H1 H → R 0 [] H) (hlen : ∀ i ys H, R i ys H → ys.length ≤ i) (hu : ∀ i ys H zs us, R i ys H → H D = some (.lst zs) → R i ys (upd H D (.lst us)))
    (he : ∀ (i : Nat) x H ys (Qy : VK) (Qn : Hp → Prop), xs[i]? = some x → Same H1 H → R i ys H → (∀ H' y, Same H H' → R (i + 1) (ys ++ [y]) H' → Qy y H') → (∀ H', Same H H' → R (i + 1) ys H' → Qn H') → tc (σ0.set i0 (some x)) H fun b H3 => if b = true then te (σ0.set i0 (some x)) H3 Qy else Qn H3)
    (hq : ∀ H' ys, Same H1 H' → R xs.length ys H' → H' D = some (.lst ys) → Q (.ref D) H') :
    ∃ W : Nat → Nat → Hp → Prop, (∃ m, W 0 m (upd H1 D (.lst []))) ∧ compW J D σ0 i0 tc te Q W := by
  have hs : (1000000 : Nat) < sizeLine := by decide
  refine ⟨fun i m H => m = xs.length - i ∧ i ≤ xs.length ∧ Same H1 H ∧ ∃ ys, R i ys H ∧ H D = some (.lst ys), ⟨xs.length, by simp, Nat.zero_le _, same_new hD, [], h0 _ (same_new hD), upd_same⟩, ?_⟩
  rintro i m H ⟨rfl, hi, sm, ys, hR, hd⟩
  by_cases hlt : i < xs.length
  · refine .inr ⟨hgo i xs[i] H sm (by simp [hlt]), fun x H' y => ?_⟩
    obtain ⟨e, ex⟩ := hy i x H H' sm hlt y
    subst e
    have hl := hlen i ys _ hR
    refine he i x _ ys _ _ ex sm hR (fun H2 z s2 hf => ?_) (fun H2 s2 hf => ?_)
    · exact ⟨_, s2 _ _ hd, by omega, xs.length - (i + 1), by omega, rfl, hlt, Same.updD hD (sm.trans s2), ys ++ [z], hu _ _ _ _ _ hf (s2 _ _ hd), upd_same⟩
    · exact ⟨xs.length - (i + 1), by omega, rfl, hlt, sm.trans s2, ys, hf, s2 _ _ hd⟩
  · have e : i = xs.length := by omega
    subst e
    exact .inl ⟨hst H sm, hq H ys sm hR hd⟩
theorem comp_lstR {K : PySem.W.Frag} {a D : Addr} {σ0 : St} {i0 : Nat} {tc : TT} {te : TE} {Q : VK} {H1 : Hp} {xs : List V} (R : Nat → List V → Hp → Prop) (hD : H1 D = none) (hl : SqL K H1 a xs) (hn : xs.length ≤ 1000000)
    (h0 : ∀ H, Same H1 H → R 0 [] H) (hlen : ∀ i ys H, R i ys H → ys.length ≤ i) (hu : ∀ i ys H zs us, R i ys H → H D = some (.lst zs) → R i ys (upd H D (.lst us)))
    (he : ∀ (i : Nat) x H ys (Qy : VK) (Qn : Hp → Prop), xs[i]? = some x → Same H1 H → R i ys H → (∀ H' y, Same H H' → R (i + 1) (ys ++ [y]) H' → Qy y H') → (∀ H', Same H H' → R (i + 1) ys H' → Qn H') → tc (σ0.set i0 (some x)) H fun b H3 => if b = true then te (σ0.set i0 (some x)) H3 Qy else Qn H3)
    (hq : ∀ H' ys, Same H1 H' → R xs.length ys H' → H' D = some (.lst ys) → Q (.ref D) H') :
    ∃ W : Nat → Nat → Hp → Prop, (∃ m, W 0 m (upd H1 D (.lst []))) ∧ compW (Itl K a) D σ0 i0 tc te Q W :=
  comp_R xs R hD hn (fun i x H s e => ⟨xs, x, s.seq hl, e⟩) (fun H s => ⟨xs, s.seq hl, Nat.le_refl _⟩) (fun i x H H' s _ y => ⟨y.1, y.2 xs (s.seq hl)⟩) h0 hlen hu he hq
end L2
namespace L2
open PySem
/-- the truth of a list, a tuple, a dict, a number, a text -/
def tTruthA (K : PySem.W.Frag) (ta : TE) : TT := fun σ H Q => ta σ H fun x H1 => ∃ k, TruV K x H1 k ∧ Q k H1
theorem q_truA {X : Cx} {K : PySem.W.Frag} {a : Expr} {ta : TE} (ha : QE X a ta) (s : X.K = K ∧ ∀ whole, isTrue a X.env whole = (do let v ← whole; standAt a.pos; holding [v] (truthy v))) : QT X a (tTruthA K ta) := by
  obtain ⟨rfl, s⟩ := s
  exact ⟨pt_truth ha.h s⟩
end L2

set_option Elab.async false
set_option linter.all false
set_option maxRecDepth 100000
namespace L2
/-- the whole number whose figures are the truths -/
def num : List Bool → Int
  | [] => 0
  | b :: bs => (if b then 1 else 0) + 2 * num bs
def bitI (b : Bool) : Int := if b then 1 else 0
theorem num_nn : ∀ hs : List Bool, 0 ≤ num hs
  | [] => Int.le_refl 0
  | b :: bs => by
    have := num_nn bs
    unfold num
    cases b <;> simp <;> omega
theorem num_lt : ∀ hs : List Bool, num hs < 2 ^ hs.length
  | [] => by decide
  | b :: bs => by
    have := num_lt bs
    unfold num
    rw [List.length_cons, Int.pow_succ]
    cases b <;> simp <;> omega
theorem num_bit : ∀ (hs : List Bool) (k : Nat), num hs / 2 ^ k % 2 = bitI (hs.getD k false)
  | [], k => by
    show (0 : Int) / 2 ^ k % 2 = 0
    rw [Int.zero_ediv]
    rfl
  | b :: bs, 0 => by
    unfold num
    rw [Int.pow_zero, Int.ediv_one]
    show _ = bitI b
    cases b <;> simp [bitI] <;> omega
  | b :: bs, k + 1 => by
    rw [Int.pow_succ, Int.mul_comm, ← Int.ediv_ediv_of_nonneg (by decide : (0 : Int) ≤ 2)]
    have h : num (b :: bs) / 2 = num bs := by
      show ((if b then 1 else 0) + 2 * num bs) / 2 = num bs
      cases b <;> simp <;> omega
    rw [h]
    exact num_bit bs k
theorem num_set : ∀ (hs : List Bool) (k : Nat) (v : Bool), k < hs.length → num (hs.set k v) = num hs + (bitI v - bitI (hs.getD k false)) * 2 ^ k
  | [], k, v, h => absurd h (Nat.not_lt_zero _)
  | b :: bs, 0, v, _ => by
    show num (v :: bs) = num (b :: bs) + (bitI v - bitI b) * 2 ^ 0
    unfold num bitI
    rw [Int.pow_zero, Int.mul_one]
    omega
  | b :: bs, k + 1, v, h => by
    have ih := num_set bs k v (Nat.lt_of_succ_lt_succ h)
    show num (b :: bs.set k v) = num (b :: bs) + (bitI v - bitI (bs.getD k false)) * 2 ^ (k + 1)
    unfold num
    rw [ih, Int.pow_succ, Int.mul_add, ← Int.mul_assoc _ (2 ^ k) 2, Int.mul_comm 2 (_ * _)]
    omega
/-- with and without, by the reckoning of the words -/
theorem with_eq (hs : List Bool) (k : Nat) (h : k < hs.length) : num hs + 2 ^ k - num hs / 2 ^ k % 2 * 2 ^ k = num (hs.set k true) := by
  rw [num_set hs k true h, num_bit]
  have e : (bitI true : Int) = 1 := rfl
  rw [e, Int.sub_mul, Int.one_mul]
  omega
theorem without_eq (hs : List Bool) (k : Nat) (h : k < hs.length) : num hs - num hs / 2 ^ k % 2 * 2 ^ k = num (hs.set k false) := by
  rw [num_set hs k false h, num_bit]
  have e : (bitI false : Int) = 0 := rfl
  rw [e, Int.sub_mul, Int.zero_mul]
  omega
/-- the fold of the law -/
theorem high_false {hs : List Bool} {m k : Nat} (h : num hs < 2 ^ m) (hk : m ≤ k) : hs.getD k false = false := by
  have e := num_bit hs k
  have z : num hs / 2 ^ k = 0 := Int.ediv_eq_zero_of_lt (num_nn hs) (by
    have : (2 : Int) ^ m ≤ 2 ^ k := by
      have := Nat.pow_le_pow_right (n := 2) (by decide) hk
      exact_mod_cast this
    omega)
  rw [z] at e
  cases hb : hs.getD k false with
  | false => rfl
  | true => rw [hb] at e; exact absurd e (by decide)
end L2
namespace L2
open PySem PySem.Spec PyProof.Rows
theorem or_bit (x : Int) (k : Nat) : Builtin.bitOr x (1 * 2 ^ k) = x + 2 ^ k - x / 2 ^ k % 2 * 2 ^ k := by
  rw [Int.one_mul, PyProof.Rows.bitOr_and, PySem.W.kbt_bit]
theorem andnot_bit (x : Int) (k : Nat) : Builtin.bitAnd x (Builtin.bitNot (1 * 2 ^ k)) = x - x / 2 ^ k % 2 * 2 ^ k := by
  rw [Int.one_mul, PyProof.Rows.bitAnd_not, PySem.W.kbt_bit]
theorem num_half (b : Bool) (bs : List Bool) : num (b :: bs) / 2 = num bs ∧ num (b :: bs) % 2 = bitI b := by
  show ((if b then 1 else 0) + 2 * num bs) / 2 = num bs ∧ ((if b then 1 else 0) + 2 * num bs) % 2 = bitI b
  cases b <;> simp [bitI] <;> omega
theorem num_or : ∀ (a b : List Bool), a.length = b.length → Builtin.bitOr (num a) (num b) = num (List.zipWith (· || ·) a b)
  | [], [], _ => by decide
  | [], _ :: _, h => by simp at h
  | _ :: _, [], h => by simp at h
  | x :: a, y :: b, h => by
    have ih := num_or a b (by simpa using h)
    rw [PyProof.Rows.bitOr_and] at ih ⊢
    rw [PySem.W.kbt_halves, (num_half x a).1, (num_half y b).1, (num_half x a).2, (num_half y b).2, List.zipWith_cons_cons]
    show (if x = true then 1 else 0) + 2 * num a + ((if y = true then 1 else 0) + 2 * num b) - _ = (if (x || y) = true then 1 else 0) + 2 * num _
    rw [← ih]
    cases x <;> cases y <;> simp [bitI] <;> omega
/-! ### sets of nears, 0 to 63 -/
abbrev NSet := Nat → Bool
def lstS (s : NSet) : List Bool := (List.range 64).map s
def numS (s : NSet) : Int := num (lstS s)
def setS (s : NSet) (k : Nat) (b : Bool) : NSet := fun j => if j = k then b else s j
def noneS : NSet := fun _ => false
def orS (s t : NSet) : NSet := fun j => s j || t j
def inS (s : NSet) : List Nat := (List.range 64).filter s
theorem lstS_length (s : NSet) : (lstS s).length = 64 := by
  unfold lstS
  rw [List.length_map, List.length_range]
theorem lstS_getD {s : NSet} {k : Nat} (h : k < 64) : (lstS s).getD k false = s k := by
  unfold lstS
  rw [List.getD_eq_getElem?_getD, List.getElem?_map, List.getElem?_range h]
  rfl
theorem lstS_set {s : NSet} {k : Nat} {b : Bool} : (lstS s).set k b = lstS (setS s k b) := by
  refine List.ext_getElem? fun i => ?_
  rw [List.getElem?_set, lstS_length]
  by_cases hi : i < 64
  · unfold lstS
    rw [List.getElem?_map, List.getElem?_map, List.getElem?_range hi]
    by_cases e : k = i
    · subst e
      rw [if_pos rfl, if_pos hi]
      simp [setS]
    · rw [if_neg e]
      have : i ≠ k := fun z => e z.symm
      simp [setS, this]
  · rw [List.getElem?_eq_none (by rw [lstS_length]; omega), List.getElem?_eq_none (by rw [lstS_length]; omega)]
    split
    · rw [if_neg (by omega)]
    · rfl
theorem lstS_or {s t : NSet} : List.zipWith (· || ·) (lstS s) (lstS t) = lstS (orS s t) := by
  unfold lstS
  generalize List.range 64 = l
  induction l with
  | nil => rfl
  | cons a l ih =>
    rw [List.map_cons, List.map_cons, List.map_cons, List.zipWith_cons_cons, ih]
    rfl
theorem withS {s : NSet} {k : Nat} (h : k < 64) : Builtin.bitOr (numS s) (1 * 2 ^ k) = numS (setS s k true) := by
  unfold numS
  rw [or_bit, with_eq _ _ (by rw [lstS_length]; exact h), lstS_set]
theorem withoutS {s : NSet} {k : Nat} (h : k < 64) : Builtin.bitAnd (numS s) (Builtin.bitNot (1 * 2 ^ k)) = numS (setS s k false) := by
  unfold numS
  rw [andnot_bit, without_eq _ _ (by rw [lstS_length]; exact h), lstS_set]
theorem orS_num {s t : NSet} : Builtin.bitOr (numS s) (numS t) = numS (orS s t) := by
  unfold numS
  rw [num_or _ _ (by rw [lstS_length, lstS_length]), lstS_or]
theorem noneS_num : numS noneS = 0 := by decide +kernel
theorem bitS {s : NSet} {k : Nat} (h : k < 64) : numS s / 2 ^ k % 2 = bitI (s k) := by
  unfold numS
  rw [num_bit, lstS_getD h]
theorem zeroS {s : NSet} : numS s = 0 ↔ ∀ j, j < 64 → s j = false := by
  constructor
  · intro h j hj
    have e := bitS (s := s) hj
    rw [h, Int.zero_ediv] at e
    cases hs : s j with
    | false => rfl
    | true => rw [hs] at e; exact absurd e (by decide)
  · intro h
    have : lstS s = lstS noneS := List.map_congr_left fun j hj => h j (List.mem_range.mp hj)
    unfold numS
    rw [this]
    exact noneS_num
theorem zeroS_in {s : NSet} : numS s = 0 ↔ inS s = [] := by
  rw [zeroS]
  unfold inS
  rw [List.filter_eq_nil_iff]
  constructor
  · intro h j hj
    rw [h j (List.mem_range.mp hj)]
    decide
  · intro h j hj
    have := h j (List.mem_range.mpr hj)
    cases hs : s j with
    | false => rfl
    | true => exact absurd hs this
theorem bitsS_le (s : NSet) : Builtin.Int.intBits (numS s) ≤ 64 := by
  refine PySem.intBits_le_iff.mpr ?_
  have h1 := num_lt (lstS s)
  have h2 := num_nn (lstS s)
  rw [lstS_length] at h1
  have e : ((2 : Int) ^ 64) = ((2 ^ 64 : Nat) : Int) := by norm_cast
  unfold numS
  omega
theorem bitsS_hi {s : NSet} {k : Nat} (h : Builtin.Int.intBits (numS s) ≤ k) (hk : k < 64) : s k = false := by
  rw [← lstS_getD (s := s) hk]
  refine high_false (m := Builtin.Int.intBits (numS s)) ?_ h
  have h1 := PySem.intBits_le_iff.mp (Nat.le_refl (Builtin.Int.intBits (numS s)))
  have h2 := num_nn (lstS s)
  have e : ((2 : Int) ^ Builtin.Int.intBits (numS s)) = ((2 ^ Builtin.Int.intBits (numS s) : Nat) : Int) := by norm_cast
  show numS s < _
  have h3 : 0 ≤ numS s := h2
  omega
/-- the test of the words' list of nears -/
def fS (s : NSet) : V → Option V
  | .int i => if i.toNat < 64 ∧ s i.toNat = true then some (.int i) else none
  | _ => none
theorem fS_at {s : NSet} {i : Nat} (h : i < 64) : fS s (V.int (0 + (i : Int))) = if s i = true then some (V.int (0 + (i : Int))) else none := by
  rw [Int.zero_add]
  unfold fS
  dsimp only
  rw [Int.toNat_natCast]
  by_cases e : s i = true
  · rw [if_pos ⟨h, e⟩, if_pos e]
  · rw [if_neg (fun z => e z.2), if_neg e]
theorem fS_range (s : NSet) {n : Nat} (hn : n ≤ 64) (hi : ∀ k, n ≤ k → k < 64 → s k = false) : ((List.range n).map fun i => V.int (0 + ((i : Nat) : Int))).filterMap (fS s) = (inS s).map fun k => V.int ((k : Nat) : Int) := by
  have e1 : ∀ l : List Nat, (∀ k ∈ l, k < 64) → (l.map fun i => V.int (0 + ((i : Nat) : Int))).filterMap (fS s) = (l.filter s).map fun k => V.int ((k : Nat) : Int) := by
    intro l
    induction l with
    | nil => intro _; rfl
    | cons a as ih =>
      intro h
      have ih := ih fun k hk => h k (by simp [hk])
      rw [List.map_cons, List.filterMap_cons, List.filter_cons, fS_at (h a (by simp)), Int.zero_add]
      by_cases e : s a = true
      · rw [if_pos e, if_pos e, List.map_cons, ih]
      · rw [if_neg e, if_neg e]
        exact ih
  rw [e1 _ fun k hk => Nat.lt_of_lt_of_le (List.mem_range.mp hk) hn]
  unfold inS
  obtain ⟨d, hd⟩ : ∃ d, 64 = n + d := ⟨64 - n, by omega⟩
  rw [hd, List.range_add, List.filter_append]
  have : (List.map (fun x => n + x) (List.range d)).filter s = [] := by
    rw [List.filter_eq_nil_iff]
    intro a ha
    obtain ⟨x, hx, rfl⟩ := List.mem_map.mp ha
    have := List.mem_range.mp hx
    rw [hi _ (by omega) (by omega)]
    decide
  rw [this, List.append_nil]
end L2

set_option Elab.async false
set_option linter.all false
set_option maxRecDepth 100000
namespace L2
open PySem PySem.Spec PyProof.Rows
/-! ### letters, and a home: what it is, told as data -/
abbrev Wo := Option (List Int)
def Wo.dat : Wo → PyData
  | none => .none
  | some ws => .tuple (ws.map PyData.int)
def WoAt (H : Hp) (v : V) : Wo → Prop
  | none => v = .non
  | some ws => ∃ p, v = .ref p ∧ H p = some (.tup (ws.map V.int))
structure Ltr where
  word : Str
  line : Int
  near : Int
  words : Wo
def Ltr.dat (l : Ltr) : PyData := .tuple [.str l.word, .int l.line, .int l.near, l.words.dat]
def LtAt (H : Hp) (q : Addr) (l : Ltr) : Prop := ∃ v, H q = some (.tup [.str l.word, .int l.line, .int l.near, v]) ∧ WoAt H v l.words
/-- tuples stay -/
def KTup (H H' : Hp) : Prop := ∀ b xs, H b = some (.tup xs) → H' b = some (.tup xs)
theorem KTup.refl (H : Hp) : KTup H H := fun _ _ e => e
theorem KTup.trans {H H1 H2 : Hp} (a : KTup H H1) (b : KTup H1 H2) : KTup H H2 := fun _ _ e => b _ _ (a _ _ e)
theorem Same.kt {H H' : Hp} (s : Same H H') : KTup H H' := fun _ _ e => s _ _ e
theorem kt_updL {H : Hp} {p : Addr} {xs ys : List V} (hp : H p = some (.lst xs)) : KTup H (upd H p (.lst ys)) := fun b zs e => by
  rw [upd_ne (ne_of e hp (by intro z; cases z))]
  exact e
theorem kt_updI {H : Hp} {p c dx : Addr} {fs gs : List (Str × V)} (hp : H p = some (.ins c dx fs)) : KTup H (upd H p (.ins c dx gs)) := fun b zs e => by
  rw [upd_ne (ne_of e hp (by intro z; cases z))]
  exact e
theorem WoAt.kt {H H' : Hp} {v : V} {wd : Wo} (h : WoAt H v wd) (k : KTup H H') : WoAt H' v wd := by
  cases wd with
  | none => exact h
  | some ws => obtain ⟨p, e, f⟩ := h; exact ⟨p, e, k _ _ f⟩
theorem LtAt.kt {H H' : Hp} {q : Addr} {l : Ltr} (h : LtAt H q l) (k : KTup H H') : LtAt H' q l := let ⟨v, a, b⟩ := h; ⟨v, k _ _ a, b.kt k⟩
theorem ints_reps {K : PySem.W.Frag} {H : Hp} : ∀ ns : List Int, Reps K H (ns.map V.int) (ns.map PyData.int)
  | [] => .nil
  | n :: ns => .cons (.int n) (ints_reps ns)
theorem WoAt.rep {K : PySem.W.Frag} {H : Hp} {v : V} {wd : Wo} (h : WoAt H v wd) : Rep K H v wd.dat := by
  cases wd with
  | none => obtain rfl : v = .non := h; exact .non
  | some ws => obtain ⟨p, rfl, f⟩ := h; exact .tup (SqT.of f) (ints_reps ws)
theorem ints_shp {n : Nat} (ns : List Int) : ∀ d ∈ ns.map PyData.int, Shp n d := fun d hd => by
  obtain ⟨i, _, rfl⟩ := List.mem_map.mp hd
  exact .int i
theorem Wo.shp (wd : Wo) : Shp 1 wd.dat := by
  cases wd with
  | none => exact .non
  | some ws => exact .tup (ints_shp ws)
theorem LtAt.rep {K : PySem.W.Frag} {H : Hp} {q : Addr} {l : Ltr} (h : LtAt H q l) : Rep K H (.ref q) l.dat := let ⟨v, a, b⟩ := h; .tup (SqT.of a) (.cons (.str _) (.cons (.int _) (.cons (.int _) (.cons b.rep .nil))))
theorem Ltr.shp {l : Ltr} (hw : PyData.strOk l.word = true) : Shp 2 l.dat := .tup (all1 (.str hw) (all1 (.int _) (all1 (.int _) (all1 l.words.shp all0))))
/-- letters, one for each address -/
inductive Lets (H : Hp) : List Addr → List Ltr → Prop
  | nil : Lets H [] []
  | cons {q : Addr} {l : Ltr} {qs : List Addr} {ls : List Ltr} : LtAt H q l → Lets H qs ls → Lets H (q :: qs) (l :: ls)
theorem Lets.kt {H H' : Hp} (k : KTup H H') : ∀ {qs : List Addr} {ls : List Ltr}, Lets H qs ls → Lets H' qs ls
  | _, _, .nil => .nil
  | _, _, .cons a b => .cons (a.kt k) (b.kt k)
theorem Lets.length {H : Hp} : ∀ {qs : List Addr} {ls : List Ltr}, Lets H qs ls → qs.length = ls.length
  | _, _, .nil => rfl
  | _, _, .cons _ b => by rw [List.length_cons, List.length_cons, b.length]
theorem Lets.app {H : Hp} {ps : List Addr} {ms : List Ltr} (h2 : Lets H ps ms) : ∀ {qs : List Addr} {ls : List Ltr}, Lets H qs ls → Lets H (qs ++ ps) (ls ++ ms)
  | _, _, .nil => h2
  | _, _, .cons a b => .cons a (h2.app b)
theorem Lets.at {H : Hp} : ∀ {qs : List Addr} {ls : List Ltr} {i : Nat} {x : V}, Lets H qs ls → (qs.map V.ref)[i]? = some x → ∃ q l, x = .ref q ∧ ls[i]? = some l ∧ l ∈ ls ∧ LtAt H q l
  | _, _, i, x, .nil, h => by simp at h
  | _, _, 0, x, .cons (q := q) (l := l) a b, h => by
    simp at h
    exact ⟨q, l, h.symm, rfl, by simp, a⟩
  | _, _, i + 1, x, .cons a b, h => by
    obtain ⟨q, l, h1, h2, h3, h4⟩ := b.at (i := i) (x := x) (by simpa using h)
    exact ⟨q, l, h1, by simpa using h2, by simp [h3], h4⟩
theorem Lets.reps {K : PySem.W.Frag} {H : Hp} : ∀ {qs : List Addr} {ls : List Ltr}, Lets H qs ls → Reps K H (qs.map V.ref) (ls.map Ltr.dat)
  | _, _, .nil => .nil
  | _, _, .cons a b => .cons a.rep b.reps
/-- a home -/
structure Hm where
  line : Int
  n : Nat
  far : Wo
  writer : Option Nat
  rd : NSet
  row : List Ltr
  work : Option Ltr
  aw : Option Str
  an : NSet
def oI : Option Nat → V
  | none => .non
  | some k => .int ((k : Nat) : Int)
def oS : Option Str → V
  | none => .non
  | some x => .str x
def Hm.fs (st : Hm) (vf : V) (pS : Addr) (vw : V) : List (Str × V) := [("line", .int st.line), ("near_count", .int ((st.n : Nat) : Int)), ("far_words", vf), ("writer", oI st.writer), ("readers", .int (numS st.rd)), ("standing", .ref pS), ("at_work", vw), ("awaited_word", oS st.aw), ("awaited_nears", .int (numS st.an))]
def WkAt (H : Hp) (v : V) : Option Ltr → Prop
  | none => v = .non
  | some l => ∃ q, v = .ref q ∧ LtAt H q l
theorem WkAt.kt {H H' : Hp} {v : V} {wk : Option Ltr} (h : WkAt H v wk) (k : KTup H H') : WkAt H' v wk := by
  cases wk with
  | none => exact h
  | some l => obtain ⟨q, e, f⟩ := h; exact ⟨q, e, f.kt k⟩
def LtIn (l : Ltr) : Prop := 0 ≤ l.near ∧ l.near < 64
/-- what holds of a home's data -/
structure HmOk (st : Hm) : Prop where
  n64 : st.n ≤ 64
  wr : ∀ k, st.writer = some k → k < 64
  row : ∀ l ∈ st.row, LtIn l
  wk : ∀ l, st.work = some l → LtIn l
structure HomeAt (c : Addr) (H : Hp) (a pS : Addr) (st : Hm) : Prop where
  ex : ∃ dx vf vw qs, H a = some (.ins c dx (st.fs vf pS vw)) ∧ WoAt H vf st.far ∧ WkAt H vw st.work ∧ H pS = some (.lst (qs.map V.ref)) ∧ Lets H qs st.row
  ok : HmOk st
/-- all stays but what is told -/
def SB (xs : List Addr) (H H' : Hp) : Prop := ∀ b o, H b = some o → b ∉ xs → H' b = some o
theorem SB.refl {xs : List Addr} (H : Hp) : SB xs H H := fun _ _ e _ => e
theorem SB.trans {xs : List Addr} {H H1 H2 : Hp} (a : SB xs H H1) (b : SB xs H1 H2) : SB xs H H2 := fun c o e n => b c o (a c o e n) n
theorem SB.of {xs : List Addr} {H H' : Hp} (s : Same H H') : SB xs H H' := fun b o e _ => s b o e
theorem SB.upd {xs : List Addr} {H H' : Hp} {p : Addr} {o : HO} (s : SB xs H H') (hp : p ∈ xs) : SB xs H (L2.upd H' p o) := fun b u e n => by
  rw [upd_ne (show b ≠ p from fun z => n (by rw [z]; exact hp))]
  exact s b u e n
variable {c : Addr}
theorem HomeAt.notin {H : Hp} {a pS b : Addr} {st : Hm} {xs : List V} (h : HomeAt c H a pS st) (e : H b = some (.tup xs)) : b ∉ [a, pS] := fun z => by
  obtain ⟨dx, vf, vw, qs, h1, _, _, h4, _⟩ := h.ex
  rcases List.mem_cons.mp z with rfl | z
  · rw [e] at h1
    cases h1
  · obtain rfl := List.mem_singleton.mp z
    rw [e] at h4
    cases h4
theorem HomeAt.kt {H H' : Hp} {a pS : Addr} {st : Hm} (h : HomeAt c H a pS st) (s : SB [a, pS] H H') : KTup H H' := fun b xs e => s _ _ e (h.notin e)
theorem HomeAt.ne {H : Hp} {a pS : Addr} {st : Hm} (h : HomeAt c H a pS st) : a ≠ pS := fun z => by
  obtain ⟨dx, vf, vw, qs, h1, _, _, h4, _⟩ := h.ex
  rw [z, h4] at h1
  cases h1
theorem HomeAt.keep {H H' : Hp} {a pS : Addr} {st : Hm} (h : HomeAt c H a pS st) (s : Same H H') : HomeAt c H' a pS st :=
  ⟨let ⟨dx, vf, vw, qs, h1, h2, h3, h4, h5⟩ := h.ex; ⟨dx, vf, vw, qs, s _ _ h1, h2.kt s.kt, h3.kt s.kt, s _ _ h4, h5.kt s.kt⟩, h.ok⟩
section
variable {st : Hm} {vf vw v : V} {pS : Addr}
theorem Hm.g0 : (st.fs vf pS vw).lookup ("line" : Str) = some (.int st.line) := by kernel_rfl
theorem Hm.g1 : (st.fs vf pS vw).lookup ("near_count" : Str) = some (.int ((st.n : Nat) : Int)) := by kernel_rfl
theorem Hm.g2 : (st.fs vf pS vw).lookup ("far_words" : Str) = some vf := by kernel_rfl
theorem Hm.g3 : (st.fs vf pS vw).lookup ("writer" : Str) = some (oI st.writer) := by kernel_rfl
theorem Hm.g4 : (st.fs vf pS vw).lookup ("readers" : Str) = some (.int (numS st.rd)) := by kernel_rfl
theorem Hm.g5 : (st.fs vf pS vw).lookup ("standing" : Str) = some (.ref pS) := by kernel_rfl
theorem Hm.g6 : (st.fs vf pS vw).lookup ("at_work" : Str) = some vw := by kernel_rfl
theorem Hm.g7 : (st.fs vf pS vw).lookup ("awaited_word" : Str) = some (oS st.aw) := by kernel_rfl
theorem Hm.g8 : (st.fs vf pS vw).lookup ("awaited_nears" : Str) = some (.int (numS st.an)) := by kernel_rfl
theorem Hm.p2 : putF "far_words" v (st.fs vf pS vw) = st.fs v pS vw := by kernel_rfl
theorem Hm.p3 (o : Option Nat) : putF "writer" (oI o) (st.fs vf pS vw) = { st with writer := o }.fs vf pS vw := by kernel_rfl
theorem Hm.p4 (s : NSet) : putF "readers" (.int (numS s)) (st.fs vf pS vw) = { st with rd := s }.fs vf pS vw := by kernel_rfl
theorem Hm.p6 : putF "at_work" v (st.fs vf pS vw) = st.fs vf pS v := by kernel_rfl
theorem Hm.p7 (o : Option Str) : putF "awaited_word" (oS o) (st.fs vf pS vw) = { st with aw := o }.fs vf pS vw := by kernel_rfl
theorem Hm.p8 (s : NSet) : putF "awaited_nears" (.int (numS s)) (st.fs vf pS vw) = { st with an := s }.fs vf pS vw := by kernel_rfl
end
/-- a home with its parts -/
structure RawH (c : Addr) (H : Hp) (a pS dx : Addr) (st : Hm) (vf vw : V) (qs : List Addr) : Prop where
  obj : H a = some (.ins c dx (st.fs vf pS vw))
  far : WoAt H vf st.far
  wk : WkAt H vw st.work
  lst : H pS = some (.lst (qs.map V.ref))
  row : Lets H qs st.row
theorem HomeAt.raw {H : Hp} {a pS : Addr} {st : Hm} (h : HomeAt c H a pS st) : ∃ dx vf vw qs, RawH c H a pS dx st vf vw qs := let ⟨dx, vf, vw, qs, h1, h2, h3, h4, h5⟩ := h.ex; ⟨dx, vf, vw, qs, h1, h2, h3, h4, h5⟩
section
variable {H H' : Hp} {a pS dx : Addr} {st : Hm} {vf vw : V} {qs : List Addr}
theorem RawH.at (r : RawH c H a pS dx st vf vw qs) (ok : HmOk st) : HomeAt c H a pS st := ⟨⟨dx, vf, vw, qs, r.obj, r.far, r.wk, r.lst, r.row⟩, ok⟩
theorem RawH.keep (r : RawH c H a pS dx st vf vw qs) (s : Same H H') : RawH c H' a pS dx st vf vw qs := ⟨s _ _ r.obj, r.far.kt s.kt, r.wk.kt s.kt, s _ _ r.lst, r.row.kt s.kt⟩
theorem RawH.put (r : RawH c H a pS dx st vf vw qs) (st' : Hm) {vf' vw' : V} (hr : st'.row = st.row) (h1 : WoAt H vf' st'.far) (h2 : WkAt H vw' st'.work) : RawH c (upd H a (.ins c dx (st'.fs vf' pS vw'))) a pS dx st' vf' vw' qs := by
  have k : KTup H (upd H a (.ins c dx (st'.fs vf' pS vw'))) := kt_updI r.obj
  refine ⟨upd_same, h1.kt k, h2.kt k, ?_, ?_⟩
  · rw [upd_ne (ne_of r.lst r.obj (by intro z; cases z))]
    exact r.lst
  · rw [hr]
    exact r.row.kt k
theorem RawH.putL (r : RawH c H a pS dx st vf vw qs) {ps : List Addr} {ls : List Ltr} (h : Lets H ps ls) : RawH c (upd H pS (.lst (ps.map V.ref))) a pS dx { st with row := ls } vf vw ps := by
  have k : KTup H (upd H pS (.lst (ps.map V.ref))) := kt_updL r.lst
  refine ⟨?_, r.far.kt k, r.wk.kt k, upd_same, h.kt k⟩
  rw [upd_ne (ne_of r.obj r.lst (by intro z; cases z))]
  exact r.obj
theorem RawH.len : (st.fs vf pS vw).length < 1000 := by show 9 < 1000; decide
theorem sb_obj {o : HO} : SB [a, pS] H (upd H a o) := (SB.refl H).upd (by simp)
theorem sb_lst {o : HO} : SB [a, pS] H (upd H pS o) := (SB.refl H).upd (by simp)
end
/-- the class -/
structure HCl (K : PySem.W.Frag) (c : Addr) : Prop where
  cl : Cls K c
  a0 : NoAttr K c "line"
  a1 : NoAttr K c "near_count"
  a2 : NoAttr K c "far_words"
  a3 : NoAttr K c "writer"
  a4 : NoAttr K c "readers"
  a5 : NoAttr K c "standing"
  a6 : NoAttr K c "at_work"
  a7 : NoAttr K c "awaited_word"
  a8 : NoAttr K c "awaited_nears"
/-! ### what a home does, told of its data -/
def asks (x : Str) : Bool := inV (.str x) [.str "read", .str "write", .str "back"]
def hasAsked (st : Hm) (k : Int) : Bool := st.row.any (fun l => decide (l.near = k)) || (match st.work with | none => false | some l => decide (l.near = k) && !decide (st.aw = some ("took" : Str)))
def awaitsB (st : Hm) (l : Ltr) : Bool :=
  if l.line ≠ st.line ∨ ¬ (0 ≤ l.near ∧ l.near < st.n) then false
  else if asks l.word then !hasAsked st l.near else decide (st.aw = some l.word) && st.an l.near.toNat
def strikeM (st : Hm) (l : Ltr) : Hm := if st.writer = some l.near.toNat then { st with far := l.words, writer := none, rd := setS st.rd l.near.toNat false } else { st with rd := setS st.rd l.near.toNat false }
/-- the letter at work, w, is granted -/
def grantM (st : Hm) (w : Ltr) : Hm × List Ltr :=
  if w.word = "read" then ({ st with aw := some ("took" : Str), an := setS noneS w.near.toNat true, rd := setS st.rd w.near.toNat true }, [⟨"share", st.line, w.near, st.far⟩])
  else ({ st with aw := some ("took" : Str), an := setS noneS w.near.toNat true, writer := some w.near.toNat, rd := noneS }, [⟨"own", st.line, w.near, st.far⟩])
def callM (st : Hm) (w : Ltr) (word ans : Str) (s : NSet) : Hm × List Ltr :=
  if inS s = [] then grantM st w else ({ st with aw := some ans, an := s }, (inS s).map fun k => ⟨word, st.line, ((k : Nat) : Int), none⟩)
def writerS : Option Nat → NSet
  | none => noneS
  | some k => setS noneS k true
def beginM (st : Hm) (l : Ltr) : Hm × List Ltr :=
  if l.word = "back" then (strikeM st l, [⟨"gone", st.line, l.near, none⟩])
  else if l.word = "read" then callM { st with work := some l } l "lower" "lowered" (writerS st.writer)
  else callM { st with work := some l } l "yield" "yielded" (setS (orS (writerS st.writer) st.rd) l.near.toNat false)
def workL : List Ltr → Hm → Hm × List Ltr
  | [], st => ({ st with row := [] }, [])
  | l :: r, st => if st.work.isSome then ({ st with row := l :: r }, []) else
    let a := beginM { st with row := r } l
    let b := workL r a.1
    (b.1, a.2 ++ b.2)
def lowM (st : Hm) (l : Ltr) : Hm := if l.word = "lowered" then { strikeM st l with rd := setS (strikeM st l).rd l.near.toNat true } else strikeM st l
def heardM (st : Hm) (l : Ltr) : Hm := { lowM st l with an := setS (lowM st l).an l.near.toNat false }
def hearM (st : Hm) (l : Ltr) : Hm × List Ltr :=
  if l.word = "took" then ({ st with work := none, aw := none, an := noneS }, [])
  else match (heardM st l).work with
    | some w => if inS (heardM st l).an = [] then grantM (heardM st l) w else (heardM st l, [])
    | none => (heardM st l, [])
def comeM (st : Hm) (l : Ltr) : Hm × List Ltr :=
  if asks l.word then workL (st.row ++ [l]) st
  else
    let a := hearM st l
    let b := workL a.1.row a.1
    (b.1, a.2 ++ b.2)
end L2

set_option Elab.async false
set_option linter.all false
set_option maxRecDepth 100000
namespace L2
open PySem PySem.Spec PyProof.Rows
/-! ### sorted(list of whole numbers) -/
def rSort (K : PySem.W.Frag) : List V → Hp → VK → Prop := fun xs H Q => ∃ p ns, xs = [.ref p] ∧ SqL K H p ((ns : List Int).map V.int) ∧ ns.length < 64 ∧ ∀ (q : Addr) (ns' : List Int) (H' : Hp), ns'.Perm ns → ns'.Pairwise (· ≤ ·) → New H q (.lst (ns'.map V.int)) H' → Q (.ref q) H'
section
variable {X : Cx} {K : PySem.W.Frag}
end
end L2
namespace L2
end L2

set_option Elab.async false
set_option linter.all false
set_option maxRecDepth 100000
namespace L2
open PySem PySem.Spec PyProof.Rows
/-! ### xs.remove(i) of ints -/
theorem idx_int {ns : List Int} {x : Int} (h : x ∈ ns) : ∃ j, ns.findIdx? (· == x) = some j ∧ j < ns.length ∧ ns[j]? = some x ∧ (∀ m, m < j → ns[m]? ≠ some x) ∧ ns.eraseIdx j = ns.erase x := by
  induction ns with
  | nil => cases h
  | cons n ns ih =>
    by_cases e : n = x
    · subst e
      exact ⟨0, by simp [List.findIdx?_cons], by simp, rfl, fun m hm => by omega, by simp⟩
    · have h' : x ∈ ns := (List.mem_cons.mp h).elim (fun z => absurd z.symm e) id
      obtain ⟨j, h1, h2, h3, h4, h5⟩ := ih h'
      refine ⟨j + 1, ?_, ?_, ?_, ?_, ?_⟩
      · rw [List.findIdx?_cons]
        simp [e, h1]
      · simpa using h2
      · simpa using h3
      · intro m hm
        cases m with
        | zero => simpa using e
        | succ m => simpa using h4 m (by omega)
      · rw [List.eraseIdx_cons_succ, h5, List.erase_cons_tail (by simpa using e)]
def isIntV (k : Int) : Value → Bool
  | .int m _ => m == k
  | _ => false
def rRemove : V → List V → Hp → VK → Prop := fun x vs H Q => ∃ l ns i, x = .ref l ∧ vs = [.int i] ∧ H l = some (.lst ((ns : List Int).map V.int)) ∧ i ∈ ns ∧ Q .non (upd H l (.lst ((ns.erase i).map V.int)))
end L2

set_option Elab.async false
set_option linter.all false
set_option maxRecDepth 100000
set_option maxHeartbeats 1000000
namespace K36
open PySem L2
def top (i : Nat) : Stmt := PySem.Challenge.pw_linewarden_k36_home_twins.main.body.getD i (.Pass ⟨0, 0, 0, 0⟩)
structure Bl (mg : Str → Option Value) : Prop where
  isinstance : mg "isinstance" = none
  str : mg "str" = none
  range : mg "range" = none
  list : mg "list" = none
  any : mg "any" = none
  len : mg "len" = none
  sorted : mg "sorted" = none
  tuple : mg "tuple" = none
  int : mg "int" = none
  max : mg "max" = none
  min : mg "min" = none
/-! ### the program: sets of nears, letters -/
abbrev sPWith : Stmt := top 1
abbrev sPWithout : Stmt := top 2
abbrev sPNears : Stmt := top 3
abbrev sPTo : Stmt := top 11
abbrev sPMk : Stmt := top 12
def homeVs : List V := [.str "read", .str "write", .str "back", .str "lowered", .str "yielded", .str "took"]
def nearVs : List V := [.str "lower", .str "yield", .str "share", .str "own", .str "gone"]
def IsWord (x : Str) : Prop := inV (.str x) homeVs = true ∨ inV (.str x) nearVs = true
structure TxL (K : PySem.W.Frag) (mg : Str → Option Value) (aH aN cW : Addr) : Prop where
  HOME_WORDS : mg "HOME_WORDS" = some (.ref aH)
  NEAR_WORDS : mg "NEAR_WORDS" = some (.ref aN)
  sqH : ∀ H, SqT K H aH homeVs
  sqN : ∀ H, SqT K H aN nearVs
  NoWord : mg "NoWord" = some (.ref cW)
  x_NoWord : ExcK K cW
section
variable {P : Program} {w : World} {K : PySem.W.Frag} {mg : Str → Option Value} {base : Heap} {aH aN cW : Addr}
def spWith : Sp := fun vs H Q _ => ∃ (x : Int) (s : NSet) (k : Nat), vs = [.int x, .int ((k : Nat) : Int)] ∧ x = numS s ∧ k < 64 ∧ Q (.int (numS (setS s k true))) H
def spWithout : Sp := fun vs H Q _ => ∃ (x : Int) (s : NSet) (k : Nat), vs = [.int x, .int ((k : Nat) : Int)] ∧ x = numS s ∧ k < 64 ∧ Q (.int (numS (setS s k false))) H
theorem scPWith : FnScope ["bits", "near"] ["bits", "near"] (defScope sPWith) := ⟨rfl, rfl, rfl, by decide +kernel, rfl, by decide +kernel, by decide +kernel⟩
theorem ok_with {f : Addr} {fd : FuncData} (F : Fun K "with_near" "with_near" sPWith f fd) : FnOk P w K mg base CX0 1 f fd ["bits", "near"] spWith := by
  refine F.ok scPWith (fun vs H Q E h => ?_) (fun cdv A outer s H vs Q E hr h => ?_)
  · obtain ⟨x, t, k, rfl, _⟩ := h
    rfl
  · obtain ⟨x, t, k, rfl, rfl, hk, q⟩ := h
    apply body_of
    (conv => arg 2; whnf)
    with_reducible
      apply q_last
      apply q_ret
      apply q_op
      apply q_var (i := 0)
      with_unfolding_all first | exact ⟨rfl, Or.inl rfl, by decide, by decide⟩ | exact ⟨rfl, Or.inr (Or.inl rfl), by decide, by decide⟩ | exact ⟨rfl, Or.inr (Or.inr rfl), by decide, by decide⟩
      apply q_op
      apply q_int
      apply q_var (i := 1)
      with_unfolding_all first | exact ⟨rfl, Or.inl rfl, by decide, by decide⟩ | exact ⟨rfl, Or.inr (Or.inl rfl), by decide, by decide⟩ | exact ⟨rfl, Or.inr (Or.inr rfl), by decide, by decide⟩
      with_unfolding_all exact op_shl
      with_unfolding_all exact op_or
    refine ⟨_, rfl, _, rfl, _, _, rfl, rfl, ⟨by omega, by omega, by decide⟩, _, _, rfl, rfl, ?_⟩
    dsimp only
    rw [Int.toNat_natCast, withS hk]
    exact q
theorem scPWithout : FnScope ["bits", "near"] ["bits", "near"] (defScope sPWithout) := ⟨rfl, rfl, rfl, by decide +kernel, rfl, by decide +kernel, by decide +kernel⟩
theorem ok_without {f : Addr} {fd : FuncData} (F : Fun K "without_near" "without_near" sPWithout f fd) : FnOk P w K mg base CX0 1 f fd ["bits", "near"] spWithout := by
  refine F.ok scPWithout (fun vs H Q E h => ?_) (fun cdv A outer s H vs Q E hr h => ?_)
  · obtain ⟨x, t, k, rfl, _⟩ := h
    rfl
  · obtain ⟨x, t, k, rfl, rfl, hk, q⟩ := h
    apply body_of
    (conv => arg 2; whnf)
    with_reducible
      apply q_last
      apply q_ret
      apply q_op
      apply q_var (i := 0)
      with_unfolding_all first | exact ⟨rfl, Or.inl rfl, by decide, by decide⟩ | exact ⟨rfl, Or.inr (Or.inl rfl), by decide, by decide⟩ | exact ⟨rfl, Or.inr (Or.inr rfl), by decide, by decide⟩
      apply q_un
      apply q_op
      apply q_int
      apply q_var (i := 1)
      with_unfolding_all first | exact ⟨rfl, Or.inl rfl, by decide, by decide⟩ | exact ⟨rfl, Or.inr (Or.inl rfl), by decide, by decide⟩ | exact ⟨rfl, Or.inr (Or.inr rfl), by decide, by decide⟩
      with_unfolding_all exact op_shl
      with_unfolding_all exact un_inv
      with_unfolding_all exact op_and
    refine ⟨_, rfl, _, rfl, _, _, rfl, rfl, ⟨by omega, by omega, by decide⟩, _, rfl, _, _, rfl, rfl, ?_⟩
    dsimp only
    rw [Int.toNat_natCast, withoutS hk]
    exact q
def natV (ks : List Nat) : List V := ks.map fun k => V.int ((k : Nat) : Int)
def spNears : Sp := fun vs H Q _ => ∃ t : NSet, vs = [.int (numS t)] ∧ ∀ q H', Same H H' → H q = none → H' q = some (.lst (natV (inS t))) → Q (.ref q) H'
theorem scPNears : FnScope ["bits"] ["bits"] (defScope sPNears) := ⟨rfl, rfl, rfl, by decide +kernel, rfl, by decide +kernel, by decide +kernel⟩
theorem ok_nears {f : Addr} {fd : FuncData} (F : Fun K "nears_in" "nears_in" sPNears f fd) (Z : Bl mg) : FnOk P w K mg base CX0 1 f fd ["bits"] spNears := by
  refine F.ok scPNears (fun vs H Q E h => ?_) (fun cdv A outer s H vs Q E hr h => ?_)
  · obtain ⟨t, rfl, _⟩ := h
    rfl
  · obtain ⟨t, rfl, q⟩ := h
    apply body_of
    (conv => arg 2; whnf)
    with_reducible
      apply q_last
      apply q_ret
      apply q_comp (N' := ["bits", "near"]) (ix := [some 0, none]) (i0 := 1)
      apply q_irange1
      apply q_cons
      apply q_bits
      apply q_var (i := 0)
      with_unfolding_all first | exact ⟨rfl, Or.inl rfl, by decide, by decide⟩ | exact ⟨rfl, Or.inr (Or.inl rfl), by decide, by decide⟩ | exact ⟨rfl, Or.inr (Or.inr rfl), by decide, by decide⟩
      with_unfolding_all exact ⟨rfl, rfl⟩
      apply q_nil
      with_unfolding_all exact rfl
      with_unfolding_all exact ⟨Z.range, rfl, rfl⟩
      intro cl C s2 H2 fp
      apply q_ifone
      apply q_tcmp
      apply q_op
      apply q_op
      apply q_var (i := 0)
      with_unfolding_all first | exact ⟨rfl, Or.inl rfl, by decide, by decide⟩ | exact ⟨rfl, Or.inr (Or.inl rfl), by decide, by decide⟩ | exact ⟨rfl, Or.inr (Or.inr rfl), by decide, by decide⟩
      apply q_var (i := 1)
      with_unfolding_all first | exact ⟨rfl, Or.inl rfl, by decide, by decide⟩ | exact ⟨rfl, Or.inr (Or.inl rfl), by decide, by decide⟩ | exact ⟨rfl, Or.inr (Or.inr rfl), by decide, by decide⟩
      with_unfolding_all exact op_shr
      apply q_int
      with_unfolding_all exact op_and
      apply q_int
      with_unfolding_all exact ⟨keq (K := K) rfl hr.units, nomark _⟩
      intro cl C s2 H2 fp
      apply q_var (i := 1)
      with_unfolding_all first | exact ⟨rfl, Or.inl rfl, by decide, by decide⟩ | exact ⟨rfl, Or.inr (Or.inl rfl), by decide, by decide⟩ | exact ⟨rfl, Or.inr (Or.inr rfl), by decide, by decide⟩
      with_unfolding_all exact ⟨by kernel_rfl, rfl, rfl, rfl, rfl, fun _ => rfl⟩
    have hb := bitsS_le t
    refine ⟨_, rfl, _, rfl, _, rfl, by omega, by omega, fun D hD => comp_rangeF (lo := 0) (fS t) hD (by omega) (fun i H' Qy Qn hi sm hy hn => ?_) fun H' s' e' => ?_⟩
    · have e0 : (0 : Int) + (i : Int) = (i : Int) := Int.zero_add _
      have hi2 : i < 64 := by
        rw [Int.toNat_natCast] at hi
        omega
      have ev := fS_at (s := t) hi2
      refine ⟨_, rfl, _, rfl, _, _, rfl, rfl, (by omega), _, _, rfl, rfl, .inl ⟨rfl, _, rfl, iteEq (fun z => ?_) (fun z => ?_)⟩⟩
      · rw [e0, Int.toNat_natCast, PyProof.Rows.bitAnd_m1, bitS hi2] at z
        refine ⟨_, rfl, hy _ _ (Same.refl _) ?_⟩
        rw [ev]
        refine if_pos ?_
        cases hh : t i with
        | true => rfl
        | false => rw [hh] at z; exact absurd z (by decide)
      · rw [e0, Int.toNat_natCast, PyProof.Rows.bitAnd_m1, bitS hi2] at z
        refine hn _ (Same.refl _) ?_
        rw [ev]
        refine if_neg ?_
        intro hh
        rw [hh] at z
        exact z rfl
    · rw [Int.toNat_natCast, fS_range t hb fun j h1 h2 => bitsS_hi h1 h2] at e'
      exact q D H' s' hD e'
theorem inV_mem {x : Str} {xs : List Str} : inV (.str x) (xs.map V.str) = decide (x ∈ xs) := by
  unfold inV
  induction xs with
  | nil => rfl
  | cons y ys ih =>
    rw [List.map_cons, List.any_cons, ih, Bool.eq_iff_iff]
    simp only [eqV, Bool.or_eq_true, beq_iff_eq, decide_eq_true_eq, List.mem_cons]
    constructor
    · rintro (h | h)
      · exact .inl h.symm
      · exact .inr h
    · rintro (h | h)
      · exact .inl h.symm
      · exact .inr h
theorem word_ok {x : Str} (h : IsWord x) : PyData.strOk x = true := by
  have e1 : inV (.str x) homeVs = decide (x ∈ (["read", "write", "back", "lowered", "yielded", "took"] : List Str)) := inV_mem (x := x) (xs := ["read", "write", "back", "lowered", "yielded", "took"])
  have e2 : inV (.str x) nearVs = decide (x ∈ (["lower", "yield", "share", "own", "gone"] : List Str)) := inV_mem (x := x) (xs := ["lower", "yield", "share", "own", "gone"])
  unfold IsWord at h
  rw [e1, e2] at h
  have a1 : ∀ y ∈ (["read", "write", "back", "lowered", "yielded", "took"] : List Str), PyData.strOk y = true := by decide +kernel
  have a2 : ∀ y ∈ (["lower", "yield", "share", "own", "gone"] : List Str), PyData.strOk y = true := by decide +kernel
  rcases h with h | h
  · exact a1 x (of_decide_eq_true h)
  · exact a2 x (of_decide_eq_true h)
def spTo : Sp := fun vs H Q _ => ∃ t : Str, vs = [.str t] ∧ IsWord t ∧ ∀ b : Bool, Q (.bl b) H
theorem scPTo : FnScope ["word"] ["word"] (defScope sPTo) := ⟨rfl, rfl, rfl, by decide +kernel, rfl, by decide +kernel, by decide +kernel⟩
theorem ok_to {f : Addr} {fd : FuncData} (F : Fun K "to_home" "to_home" sPTo f fd) (Z : Bl mg) (T : TxL K mg aH aN cW) : FnOk P w K mg base (CXE P w) 1 f fd ["word"] spTo := by
  refine F.okE scPTo (fun vs H Q E h => ?_) (fun cdv A outer s H vs Q E hr h => ?_)
  · obtain ⟨t, rfl, _⟩ := h
    rfl
  · obtain ⟨t, rfl, ht, k⟩ := h
    apply body_of
    (conv => arg 2; whnf)
    with_reducible
      apply q_then
      apply q_if
      apply q_tv
      apply q_isT (K := K)
      apply q_var (i := 0)
      with_unfolding_all first | exact ⟨rfl, Or.inl rfl, by decide, by decide⟩ | exact ⟨rfl, Or.inr (Or.inl rfl), by decide, by decide⟩ | exact ⟨rfl, Or.inr (Or.inr rfl), by decide, by decide⟩
      with_unfolding_all exact ⟨rfl, Z.isinstance, Z.str, bb_str, rfl, rfl, rfl, by decide, by decide⟩
      with_unfolding_all exact fun _ => rfl
      apply q_then
      apply q_if
      apply q_tcmp
      apply q_var (i := 0)
      with_unfolding_all first | exact ⟨rfl, Or.inl rfl, by decide, by decide⟩ | exact ⟨rfl, Or.inr (Or.inl rfl), by decide, by decide⟩ | exact ⟨rfl, Or.inr (Or.inr rfl), by decide, by decide⟩
      apply q_gref
      with_unfolding_all exact ⟨T.HOME_WORDS, rfl, by decide⟩
      with_unfolding_all exact ⟨kinB (K := K) rfl hr.units, rfl⟩
      apply q_last
      apply q_ret
      apply q_bl
      apply q_end
      apply q_last
      apply q_if
      apply q_tcmp
      apply q_var (i := 0)
      with_unfolding_all first | exact ⟨rfl, Or.inl rfl, by decide, by decide⟩ | exact ⟨rfl, Or.inr (Or.inl rfl), by decide, by decide⟩ | exact ⟨rfl, Or.inr (Or.inr rfl), by decide, by decide⟩
      apply q_gref
      with_unfolding_all exact ⟨T.NEAR_WORDS, rfl, by decide⟩
      with_unfolding_all exact ⟨kinB (K := K) rfl hr.units, rfl⟩
      apply q_last
      apply q_ret
      apply q_bl
      apply q_end
      apply q_end
      apply q_last
      apply q_raise
      apply q_cons
      apply q_str
      apply q_nil
      with_unfolding_all exact rfl
      with_unfolding_all exact ⟨rfl, thrown_cx, rfl, T.NoWord, T.x_NoWord, rfl, by decide⟩
    refine ⟨_, rfl, _, "str", "str", rfl, by simp, .str t, true, rfl, iteT ?_⟩
    refine ⟨_, rfl, .inl (.inl ⟨aH, homeVs, rfl, .inr (T.sqH H), rfl, rfl, inV (.str t) homeVs, rfl, iteB (fun h1 => k _) (fun h1 => ?_)⟩)⟩
    have h2 : inV (.str t) nearVs = true := ht.elim (fun z => absurd (z.symm.trans h1) (by decide)) id
    exact ⟨_, rfl, .inl (.inl ⟨aN, nearVs, rfl, .inr (T.sqN H), rfl, rfl, true, by rw [h2]; rfl, iteT (k _)⟩)⟩
def spMkL : Sp := fun vs H Q _ => ∃ (t : Str) (l n : Int) (v : V) (wd : Wo), vs = [.str t, .int l, .int n, v] ∧ IsWord t ∧ WoAt H v wd ∧ ∀ p H', Same H H' → H p = none → LtAt H' p ⟨t, l, n, wd⟩ → Q (.ref p) H'
theorem scPMk : FnScope ["word", "line", "near", "words"] ["word", "line", "near", "words"] (defScope sPMk) := ⟨rfl, rfl, rfl, by decide +kernel, rfl, by decide +kernel, by decide +kernel⟩
theorem ok_mkl {f : Addr} {fd : FuncData} {dV : Value} (F : FunD K "make_letter" "make_letter" sPMk f fd dV) (C_to_home : CalD P w K mg base (CXE P w) 1 "to_home" ["word"] [] spTo) : FnOk P w K mg base (CXE P w) 2 f fd ["word", "line", "near", "words"] spMkL := by
  refine F.ok0 scPMk (fun vs H Q E h => ?_) (fun cdv A outer s H vs Q E hr h => ?_)
  · obtain ⟨t, l, n, v, wd, rfl, _⟩ := h
    rfl
  · obtain ⟨t, l, n, v, wd, rfl, ht, hv, k⟩ := h
    apply body_of
    (conv => arg 2; whnf)
    with_reducible
      apply q_then
      apply q_expr
      apply q_call
      apply q_cons
      apply q_var (i := 0)
      with_unfolding_all first | exact ⟨rfl, Or.inl rfl, by decide, by decide⟩ | exact ⟨rfl, Or.inr (Or.inl rfl), by decide, by decide⟩ | exact ⟨rfl, Or.inr (Or.inr rfl), by decide, by decide⟩
      apply q_nil
      with_unfolding_all exact rfl
      with_unfolding_all exact ⟨C_to_home, hr.mono (by decide), rfl, passes_none, rfl, by decide⟩
      with_unfolding_all exact rfl
      apply q_last
      apply q_ret
      apply q_tupA
      apply q_cons
      apply q_var (i := 0)
      with_unfolding_all first | exact ⟨rfl, Or.inl rfl, by decide, by decide⟩ | exact ⟨rfl, Or.inr (Or.inl rfl), by decide, by decide⟩ | exact ⟨rfl, Or.inr (Or.inr rfl), by decide, by decide⟩
      apply q_cons
      apply q_var (i := 1)
      with_unfolding_all first | exact ⟨rfl, Or.inl rfl, by decide, by decide⟩ | exact ⟨rfl, Or.inr (Or.inl rfl), by decide, by decide⟩ | exact ⟨rfl, Or.inr (Or.inr rfl), by decide, by decide⟩
      apply q_cons
      apply q_var (i := 2)
      with_unfolding_all first | exact ⟨rfl, Or.inl rfl, by decide, by decide⟩ | exact ⟨rfl, Or.inr (Or.inl rfl), by decide, by decide⟩ | exact ⟨rfl, Or.inr (Or.inr rfl), by decide, by decide⟩
      apply q_cons
      apply q_var (i := 3)
      with_unfolding_all first | exact ⟨rfl, Or.inl rfl, by decide, by decide⟩ | exact ⟨rfl, Or.inr (Or.inl rfl), by decide, by decide⟩ | exact ⟨rfl, Or.inr (Or.inr rfl), by decide, by decide⟩
      apply q_nil
      with_unfolding_all exact rfl
      with_unfolding_all exact rfl
      with_unfolding_all exact rfl
      with_unfolding_all exact rfl
    exact ⟨_, rfl, t, rfl, ht, fun b => ⟨_, rfl, _, rfl, _, rfl, _, rfl, by show 4 ≤ sizeLine; decide, fun p H2 n2 => k p H2 n2.2.1 n2.1 ⟨v, n2.2.2, hv.kt n2.2.1.kt⟩⟩⟩
end
end K36

set_option Elab.async false
set_option linter.all false
set_option maxRecDepth 100000
set_option maxHeartbeats 1000000
namespace K36
open PySem L2
/-! ### the program: a home -/
abbrev sHome_init : Stmt := inClass (top 15) 0
abbrev sHome_come : Stmt := inClass (top 15) 1
abbrev sHome_far : Stmt := inClass (top 15) 2
abbrev sHome_book : Stmt := inClass (top 15) 3
abbrev sHome_row : Stmt := inClass (top 15) 4
abbrev sHome_work : Stmt := inClass (top 15) 5
abbrev sHome_picture : Stmt := inClass (top 15) 6
abbrev sHome_twin : Stmt := inClass (top 15) 7
abbrev sHome_awaits : Stmt := inClass (top 15) 8
abbrev sHome_has_asked : Stmt := inClass (top 15) 9
abbrev sHome_letter_of : Stmt := inClass (top 15) 10
abbrev sHome_work_on : Stmt := inClass (top 15) 11
abbrev sHome_begin : Stmt := inClass (top 15) 12
abbrev sHome_call_in : Stmt := inClass (top 15) 13
abbrev sHome_grant : Stmt := inClass (top 15) 14
abbrev sHome_hear : Stmt := inClass (top 15) 15
abbrev sHome_strike_out : Stmt := inClass (top 15) 16
def RR (cR : Addr) (sp : Sp) (C : Addr) (dvs : List V) (q : Sp) : Prop := C = cR ∧ dvs = [] ∧ q = sp
abbrev MS (P : Program) (w : World) (K : PySem.W.Frag) (mg : Str → Option Value) (base : Heap) (k : Nat) (R : Addr → List V → Sp → Prop) (m : Str) : Prop := ∀ C dvs sp, R C dvs sp → MOk P w K mg base (CXE P w) k C m dvs sp
def askVs : List V := [.str "read", .str "write", .str "back"]
structure TxH (K : PySem.W.Frag) (mg : Str → Option Value) (aA cU : Addr) : Prop where
  ASKING : mg "ASKING" = some (.ref aA)
  sqA : ∀ H, SqT K H aA askVs
  Unawaited : mg "Unawaited" = some (.ref cU)
  x_Unawaited : ExcK K cU
section
variable {P : Program} {w : World} {K : PySem.W.Frag} {mg : Str → Option Value} {base : Heap} {cH aA cU : Addr}
def spLetterOf (cH : Addr) : Sp := fun vs H Q _ => ∃ (a pS : Addr) (st : Hm) (t : Str) (n : Int) (v : V) (wd : Wo), vs = [.ref a, .str t, .int n, v] ∧ HomeAt cH H a pS st ∧ IsWord t ∧ WoAt H v wd ∧ ∀ p H', Same H H' → H p = none → LtAt H' p ⟨t, st.line, n, wd⟩ → Q (.ref p) H'
theorem sc_letter_of : FnScope ["self", "word", "near", "words"] ["self", "word", "near", "words"] (defScope sHome_letter_of) := ⟨rfl, rfl, rfl, by decide +kernel, rfl, by decide +kernel, by decide +kernel⟩
theorem ok_letter_of {f : Addr} {fd : FuncData} (F : FunD K "letter_of" "Home.letter_of" sHome_letter_of f fd .none) (S : HCl K cH) (C_make_letter : CalD P w K mg base (CXE P w) 2 "make_letter" ["word", "line", "near", "words"] [] spMkL) : FnOk P w K mg base (CXE P w) 3 f fd ["self", "word", "near", "words"] (spLetterOf cH) := by
  refine F.ok0 sc_letter_of (fun vs H Q E h => ?_) (fun cdv A outer s H vs Q E hr h => ?_)
  · obtain ⟨a, pS, st, t, n, v, wd, rfl, _⟩ := h
    rfl
  · obtain ⟨a, pS, st, t, n, v, wd, rfl, hH, ht, hv, k⟩ := h
    obtain ⟨dx, vf, vw, qs, ha, hvf, hvw, hS, hl⟩ := id hH.ex
    apply body_of
    (conv => arg 2; whnf)
    with_reducible
      apply q_last
      apply q_ret
      apply q_call
      apply q_cons
      apply q_var (i := 1)
      with_unfolding_all first | exact ⟨rfl, Or.inl rfl, by decide, by decide⟩ | exact ⟨rfl, Or.inr (Or.inl rfl), by decide, by decide⟩ | exact ⟨rfl, Or.inr (Or.inr rfl), by decide, by decide⟩
      apply q_cons
      apply q_fld (K := K)
      apply q_var (i := 0)
      with_unfolding_all first | exact ⟨rfl, Or.inl rfl, by decide, by decide⟩ | exact ⟨rfl, Or.inr (Or.inl rfl), by decide, by decide⟩ | exact ⟨rfl, Or.inr (Or.inr rfl), by decide, by decide⟩
      with_unfolding_all exact ⟨rfl, rfl⟩
      apply q_cons
      apply q_var (i := 2)
      with_unfolding_all first | exact ⟨rfl, Or.inl rfl, by decide, by decide⟩ | exact ⟨rfl, Or.inr (Or.inl rfl), by decide, by decide⟩ | exact ⟨rfl, Or.inr (Or.inr rfl), by decide, by decide⟩
      apply q_cons
      apply q_var (i := 3)
      with_unfolding_all first | exact ⟨rfl, Or.inl rfl, by decide, by decide⟩ | exact ⟨rfl, Or.inr (Or.inl rfl), by decide, by decide⟩ | exact ⟨rfl, Or.inr (Or.inr rfl), by decide, by decide⟩
      apply q_nil
      with_unfolding_all exact rfl
      with_unfolding_all exact rfl
      with_unfolding_all exact rfl
      with_unfolding_all exact rfl
      with_unfolding_all exact ⟨C_make_letter, hr.mono (by decide), rfl, passes_none, rfl, by decide⟩
    exact ⟨_, rfl, _, rfl, a, _, dx, _, _, rfl, ha, S.cl, S.a0, Hm.g0, _, rfl, _, rfl, t, _, n, v, wd, rfl, ht, hv, k⟩
def spFar (cH : Addr) : Sp := fun vs H Q _ => ∃ (a pS : Addr) (st : Hm), vs = [.ref a] ∧ HomeAt cH H a pS st ∧ ∀ v, WoAt H v st.far → Q v H
theorem sc_far : FnScope ["self"] ["self"] (defScope sHome_far) := ⟨rfl, rfl, rfl, by decide +kernel, rfl, by decide +kernel, by decide +kernel⟩
theorem ok_far {f : Addr} {fd : FuncData} (F : FunD K "far" "Home.far" sHome_far f fd .none) (S : HCl K cH) : FnOk P w K mg base (CXE P w) 1 f fd ["self"] (spFar cH) := by
  refine F.ok0 sc_far (fun vs H Q E h => ?_) (fun cdv A outer s H vs Q E hr h => ?_)
  · obtain ⟨a, pS, st, rfl, _⟩ := h
    rfl
  · obtain ⟨a, pS, st, rfl, hH, k⟩ := h
    obtain ⟨dx, vf, vw, qs, ha, hvf, hvw, hS, hl⟩ := id hH.ex
    apply body_of
    (conv => arg 2; whnf)
    with_reducible
      apply q_last
      apply q_ret
      apply q_fld (K := K)
      apply q_var (i := 0)
      with_unfolding_all first | exact ⟨rfl, Or.inl rfl, by decide, by decide⟩ | exact ⟨rfl, Or.inr (Or.inl rfl), by decide, by decide⟩ | exact ⟨rfl, Or.inr (Or.inr rfl), by decide, by decide⟩
      with_unfolding_all exact ⟨rfl, rfl⟩
    exact ⟨_, rfl, a, _, dx, _, _, rfl, ha, S.cl, S.a2, Hm.g2, k vf hvf⟩
def spBook (cH : Addr) : Sp := fun vs H Q _ => ∃ (a pS : Addr) (st : Hm), vs = [.ref a] ∧ HomeAt cH H a pS st ∧ ∀ p q H', Same H H' → H p = none → H q = none → H' p = some (.tup [oI st.writer, .ref q]) → H' q = some (.lst (natV (inS st.rd))) → Q (.ref p) H'
theorem sc_book : FnScope ["self"] ["self"] (defScope sHome_book) := ⟨rfl, rfl, rfl, by decide +kernel, rfl, by decide +kernel, by decide +kernel⟩
theorem ok_book {f : Addr} {fd : FuncData} (F : FunD K "book" "Home.book" sHome_book f fd .none) (S : HCl K cH) (C_nears_in : CalD P w K mg base (CXE P w) 1 "nears_in" ["bits"] [] spNears) : FnOk P w K mg base (CXE P w) 2 f fd ["self"] (spBook cH) := by
  refine F.ok0 sc_book (fun vs H Q E h => ?_) (fun cdv A outer s H vs Q E hr h => ?_)
  · obtain ⟨a, pS, st, rfl, _⟩ := h
    rfl
  · obtain ⟨a, pS, st, rfl, hH, k⟩ := h
    obtain ⟨dx, vf, vw, qs, ha, hvf, hvw, hS, hl⟩ := id hH.ex
    apply body_of
    (conv => arg 2; whnf)
    with_reducible
      apply q_last
      apply q_ret
      apply q_tupA
      apply q_cons
      apply q_fld (K := K)
      apply q_var (i := 0)
      with_unfolding_all first | exact ⟨rfl, Or.inl rfl, by decide, by decide⟩ | exact ⟨rfl, Or.inr (Or.inl rfl), by decide, by decide⟩ | exact ⟨rfl, Or.inr (Or.inr rfl), by decide, by decide⟩
      with_unfolding_all exact ⟨rfl, rfl⟩
      apply q_cons
      apply q_call
      apply q_cons
      apply q_fld (K := K)
      apply q_var (i := 0)
      with_unfolding_all first | exact ⟨rfl, Or.inl rfl, by decide, by decide⟩ | exact ⟨rfl, Or.inr (Or.inl rfl), by decide, by decide⟩ | exact ⟨rfl, Or.inr (Or.inr rfl), by decide, by decide⟩
      with_unfolding_all exact ⟨rfl, rfl⟩
      apply q_nil
      with_unfolding_all exact rfl
      with_unfolding_all exact ⟨C_nears_in, hr.mono (by decide), rfl, passes_none, rfl, by decide⟩
      apply q_nil
      with_unfolding_all exact rfl
      with_unfolding_all exact rfl
    exact ⟨_, rfl, a, _, dx, _, _, rfl, ha, S.cl, S.a3, Hm.g3, _, rfl, a, _, dx, _, _, rfl, ha, S.cl, S.a4, Hm.g4, st.rd, rfl, fun q H1 s1 hq e1 => ⟨by show 2 ≤ sizeLine; decide, fun p H2 n2 => k p q H2 (s1.trans n2.2.1) (s1.free n2.1) hq n2.2.2 (n2.2.1 _ _ e1)⟩⟩
def spRowH (cH : Addr) : Sp := fun vs H Q _ => ∃ (a pS : Addr) (st : Hm), vs = [.ref a] ∧ HomeAt cH H a pS st ∧ ∀ p qs H', New H p (.lst (qs.map V.ref)) H' → Lets H' qs st.row → Q (.ref p) H'
theorem sc_row : FnScope ["self"] ["self"] (defScope sHome_row) := ⟨rfl, rfl, rfl, by decide +kernel, rfl, by decide +kernel, by decide +kernel⟩
theorem ok_rowH {f : Addr} {fd : FuncData} (F : FunD K "row" "Home.row" sHome_row f fd .none) (Z : Bl mg) (S : HCl K cH) : FnOk P w K mg base (CXE P w) 1 f fd ["self"] (spRowH cH) := by
  refine F.ok0 sc_row (fun vs H Q E h => ?_) (fun cdv A outer s H vs Q E hr h => ?_)
  · obtain ⟨a, pS, st, rfl, _⟩ := h
    rfl
  · obtain ⟨a, pS, st, rfl, hH, k⟩ := h
    obtain ⟨dx, vf, vw, qs, ha, hvf, hvw, hS, hl⟩ := id hH.ex
    apply body_of
    (conv => arg 2; whnf)
    with_reducible
      apply q_last
      apply q_ret
      apply q_ct
      apply q_cons
      apply q_fld (K := K)
      apply q_var (i := 0)
      with_unfolding_all first | exact ⟨rfl, Or.inl rfl, by decide, by decide⟩ | exact ⟨rfl, Or.inr (Or.inl rfl), by decide, by decide⟩ | exact ⟨rfl, Or.inr (Or.inr rfl), by decide, by decide⟩
      with_unfolding_all exact ⟨rfl, rfl⟩
      apply q_nil
      with_unfolding_all exact rfl
      with_unfolding_all exact ⟨klistB (K := K) rfl, Z.list, bb_list, rfl, rfl, by decide, by decide⟩
    exact ⟨_, rfl, a, _, dx, _, _, rfl, ha, S.cl, S.a5, Hm.g5, pS, _, rfl, .inl (SqL.of hS), fun p H1 n1 => k p qs H1 n1 (hl.kt n1.2.1.kt)⟩
/-- whether a letter that asks stands -/
def spAsked (cH : Addr) : Sp := fun vs H Q _ => ∃ (a pS : Addr) (st : Hm) (n : Int), vs = [.ref a, .int n] ∧ HomeAt cH H a pS st ∧ st.row.length ≤ 1000 ∧ ∀ H', Same H H' → Q (.bl (hasAsked st n)) H'
theorem sc_has_asked : FnScope ["self", "near"] ["self", "near"] (defScope sHome_has_asked) := ⟨rfl, rfl, rfl, by decide +kernel, rfl, by decide +kernel, by decide +kernel⟩
theorem dV (i j : Int) : decide (V.int i = V.int j) = decide (i = j) := by simp
def nearIs (H : Hp) (n : Int) : V → Option V
  | .ref q => match H q with
    | some (.tup [_, _, .int m, _]) => some (.bl (decide (m = n)))
    | _ => none
  | _ => none
theorem nearIs_at {H : Hp} {n : Int} {q : Addr} {l : Ltr} (h : LtAt H q l) : nearIs H n (.ref q) = some (.bl (decide (l.near = n))) := by
  obtain ⟨v, h1, _⟩ := h
  unfold nearIs
  simp only [h1]
theorem nearIs_all {H : Hp} {n : Int} : ∀ {qs : List Addr} {ls : List Ltr}, Lets H qs ls → (qs.map V.ref).filterMap (nearIs H n) = (ls.map fun l => decide (l.near = n)).map V.bl
  | _, _, .nil => rfl
  | _, _, .cons a b => by
    rw [List.map_cons, List.filterMap_cons, nearIs_at a, nearIs_all b]
    rfl
theorem ok_has_asked {f : Addr} {fd : FuncData} (F : FunD K "has_asked" "Home.has_asked" sHome_has_asked f fd .none) (Z : Bl mg) (S : HCl K cH) : FnOk P w K mg base (CXE P w) 1 f fd ["self", "near"] (spAsked cH) := by
  refine F.ok0 sc_has_asked (fun vs H Q E h => ?_) (fun cdv A outer s H vs Q E hr h => ?_)
  · obtain ⟨a, pS, st, n, rfl, _⟩ := h
    rfl
  · obtain ⟨a, pS, st, n, rfl, hH, hlen, k⟩ := h
    obtain ⟨dx, vf, vw, qs, ha, hvf, hvw, hS, hl⟩ := id hH.ex
    apply body_of
    (conv => arg 2; whnf)
    with_reducible
      apply q_then
      apply q_if
      apply q_tv
      apply q_cb
      apply q_cons
      apply q_comp (N' := ["near", "letter"]) (ix := [some 1, none]) (i0 := 1)
      apply q_iseq (K := K)
      apply q_fld (K := K)
      apply q_var (i := 0)
      with_unfolding_all first | exact ⟨rfl, Or.inl rfl, by decide, by decide⟩ | exact ⟨rfl, Or.inr (Or.inl rfl), by decide, by decide⟩ | exact ⟨rfl, Or.inr (Or.inr rfl), by decide, by decide⟩
      with_unfolding_all exact ⟨rfl, rfl⟩
      with_unfolding_all exact rfl
      intro cl C s2 H2 fp
      apply q_ifnil
      intro cl C s2 H2 fp
      apply q_cmp
      apply q_ix
      apply q_var (i := 1)
      with_unfolding_all first | exact ⟨rfl, Or.inl rfl, by decide, by decide⟩ | exact ⟨rfl, Or.inr (Or.inl rfl), by decide, by decide⟩ | exact ⟨rfl, Or.inr (Or.inr rfl), by decide, by decide⟩
      apply q_int
      with_unfolding_all exact ⟨kix (K := K) rfl, fun _ _ => rfl⟩
      apply q_var (i := 0)
      with_unfolding_all first | exact ⟨rfl, Or.inl rfl, by decide, by decide⟩ | exact ⟨rfl, Or.inr (Or.inl rfl), by decide, by decide⟩ | exact ⟨rfl, Or.inr (Or.inr rfl), by decide, by decide⟩
      with_unfolding_all exact ⟨keq (K := K) rfl hr.units, nomark _⟩
      with_unfolding_all exact ⟨by kernel_rfl, rfl, rfl, rfl, rfl, fun _ => rfl⟩
      apply q_nil
      with_unfolding_all exact rfl
      with_unfolding_all exact ⟨kany (K := K) rfl rfl, Z.any, bb_any, rfl, rfl, by decide, by decide⟩
      with_unfolding_all exact fun _ => rfl
      apply q_last
      apply q_ret
      apply q_bl
      apply q_end
      apply q_last
      apply q_ret
      apply q_and
      apply q_cmp
      apply q_fld (K := K)
      apply q_var (i := 0)
      with_unfolding_all first | exact ⟨rfl, Or.inl rfl, by decide, by decide⟩ | exact ⟨rfl, Or.inr (Or.inl rfl), by decide, by decide⟩ | exact ⟨rfl, Or.inr (Or.inr rfl), by decide, by decide⟩
      with_unfolding_all exact ⟨rfl, rfl⟩
      apply q_non
      with_unfolding_all exact ⟨op_notN, nomark _⟩
      apply q_and
      apply q_cmp
      apply q_ix
      apply q_fld (K := K)
      apply q_var (i := 0)
      with_unfolding_all first | exact ⟨rfl, Or.inl rfl, by decide, by decide⟩ | exact ⟨rfl, Or.inr (Or.inl rfl), by decide, by decide⟩ | exact ⟨rfl, Or.inr (Or.inr rfl), by decide, by decide⟩
      with_unfolding_all exact ⟨rfl, rfl⟩
      apply q_int
      with_unfolding_all exact ⟨kix (K := K) rfl, fun _ _ => rfl⟩
      apply q_var (i := 1)
      with_unfolding_all first | exact ⟨rfl, Or.inl rfl, by decide, by decide⟩ | exact ⟨rfl, Or.inr (Or.inl rfl), by decide, by decide⟩ | exact ⟨rfl, Or.inr (Or.inr rfl), by decide, by decide⟩
      with_unfolding_all exact ⟨keq (K := K) rfl hr.units, nomark _⟩
      apply q_one
      apply q_cmp
      apply q_fld (K := K)
      apply q_var (i := 0)
      with_unfolding_all first | exact ⟨rfl, Or.inl rfl, by decide, by decide⟩ | exact ⟨rfl, Or.inr (Or.inl rfl), by decide, by decide⟩ | exact ⟨rfl, Or.inr (Or.inr rfl), by decide, by decide⟩
      with_unfolding_all exact ⟨rfl, rfl⟩
      apply q_str
      with_unfolding_all exact ⟨kne (K := K) rfl hr.units, nomark _⟩
    refine .inl ⟨_, rfl, a, _, dx, _, _, rfl, ha, S.cl, S.a5, Hm.g5, pS, rfl, ⟨_, SqL.of hS⟩, fun D hD => comp_lstF (K := K) (nearIs H n) hD (SqL.of hS) (by rw [List.length_map, hl.length]; omega) (fun i x H' Qy Qn ex sm hy hn => ?_) fun H1 s1 e1 => ?_⟩
    · obtain ⟨q, l, rfl, _, _, hq⟩ := hl.at ex
      have hni := nearIs_at (n := n) hq
      obtain ⟨v, h1, _⟩ := hq
      refine iteT (B := Qn H') ⟨_, rfl, .inr (.inl ⟨q, _, _, _, rfl, rfl, SqT.of (sm _ _ h1), rfl, _, rfl, .inl ⟨rfl, ?_⟩⟩)⟩
      rw [dV]
      exact hy _ _ (Same.refl _) hni
    rw [nearIs_all hl] at e1
    refine ⟨D, _, rfl, SqL.of e1, _, rfl, ?_⟩
    have ea : (st.row.map fun l => decide (l.near = n)).any id = st.row.any fun l => decide (l.near = n) := by rw [List.any_map]; rfl
    rw [ea]
    have kk := k H1 s1
    unfold hasAsked at kk
    refine iteB (fun h1 => ?_) (fun h1 => ?_)
    · rw [h1, Bool.true_or] at kk
      exact kk
    rw [h1, Bool.false_or] at kk
    have ha1 := s1 _ _ ha
    have hvw1 := hvw.kt s1.kt
    cases hw : st.work with
    | none =>
      rw [hw] at kk hvw1
      obtain rfl : vw = .non := hvw1
      exact ⟨_, rfl, a, _, dx, _, _, rfl, ha1, S.cl, S.a6, Hm.g6, rfl, false, rfl, iteF kk⟩
    | some l =>
      rw [hw] at kk hvw1
      dsimp only at kk
      obtain ⟨q, rfl, v, hq, _⟩ := hvw1
      refine ⟨_, rfl, a, _, dx, _, _, rfl, ha1, S.cl, S.a6, Hm.g6, rfl, true, rfl, iteT ⟨_, rfl, a, _, dx, _, _, rfl, ha1, S.cl, S.a6, Hm.g6, .inr (.inl ⟨q, _, _, _, rfl, rfl, SqT.of hq, rfl, _, rfl, .inl ⟨rfl, _, rfl, iteEq (fun z => ?_) (fun z => ?_)⟩⟩)⟩⟩
      · rw [decide_eq_true z, Bool.true_and] at kk
        cases haw : st.aw with
        | none =>
          rw [haw] at kk
          exact ⟨_, rfl, a, _, dx, _, _, rfl, ha1, S.cl, S.a7, Hm.g7.trans (congrArg some (show oS st.aw = .non by rw [haw]; rfl)), .inl ⟨rfl, kk⟩⟩
        | some x =>
          rw [haw] at kk
          refine ⟨_, rfl, a, _, dx, _, _, rfl, ha1, S.cl, S.a7, Hm.g7.trans (congrArg some (show oS st.aw = .str x by rw [haw]; rfl)), .inl ⟨rfl, ?_⟩⟩
          have e : decide (V.str x = V.str "took") = decide (some x = some ("took" : Str)) := by simp
          rw [e]
          exact kk
      · rw [decide_eq_false z, Bool.false_and] at kk
        exact kk
theorem in_natV {s : NSet} {k : Nat} (hk : k < 64) : inV (.int ((k : Nat) : Int)) (natV (inS s)) = s k := by
  have e : inV (.int ((k : Nat) : Int)) (natV (inS s)) = decide (k ∈ inS s) := by
    unfold inV natV
    generalize inS s = l
    induction l with
    | nil => rfl
    | cons y ys ih =>
      rw [List.map_cons, List.any_cons, ih, Bool.eq_iff_iff]
      simp only [eqV, Bool.or_eq_true, beq_iff_eq, decide_eq_true_eq, List.mem_cons]
      constructor
      · rintro (h | h)
        · exact .inl (by omega)
        · exact .inr h
      · rintro (h | h)
        · exact .inl (by omega)
        · exact .inr h
  rw [e]
  unfold inS
  rw [Bool.eq_iff_iff, decide_eq_true_eq, List.mem_filter, List.mem_range]
  exact ⟨fun h => h.2, fun h => ⟨hk, h⟩⟩
theorem flat_natV (ks : List Nat) : (natV ks).all flatV = true := by
  unfold natV
  rw [List.all_map]
  exact List.all_eq_true.mpr fun _ _ => rfl
def spAwaits (cH : Addr) : Sp := fun vs H Q _ => ∃ (a pS q : Addr) (st : Hm) (l : Ltr), vs = [.ref a, .ref q] ∧ HomeAt cH H a pS st ∧ st.row.length ≤ 1000 ∧ LtAt H q l ∧ ∀ H', Same H H' → Q (.bl (awaitsB st l)) H'
theorem sc_awaits : FnScope ["self", "letter", "word", "near"] ["self", "letter"] (defScope sHome_awaits) := ⟨rfl, rfl, rfl, by decide +kernel, rfl, by decide +kernel, by decide +kernel⟩
theorem ok_awaits {f : Addr} {fd : FuncData} (F : FunD K "awaits" "Home.awaits" sHome_awaits f fd .none) (Z : Bl mg) (T : TxH K mg aA cU) (S : HCl K cH) (C_nears_in : CalD P w K mg base (CXE P w) 1 "nears_in" ["bits"] [] spNears) (M_has_asked : MS P w K mg base 1 (RR cH (spAsked cH)) "has_asked") : FnOk P w K mg base (CXE P w) 2 f fd ["self", "letter"] (spAwaits cH) := by
  refine F.ok0 sc_awaits (fun vs H Q E h => ?_) (fun cdv A outer s H vs Q E hr h => ?_)
  · obtain ⟨a, pS, q, st, l, rfl, _⟩ := h
    rfl
  · obtain ⟨a, pS, q, st, l, rfl, hH, hlen, hq, k⟩ := h
    obtain ⟨dx, vf, vw, qs, ha, hvf, hvw, hS, hl⟩ := id hH.ex
    have nd := sc_awaits.nd
    apply body_of
    (conv => arg 2; whnf)
    with_reducible
      apply q_then
      apply q_set (i := 2)
      apply q_ix
      apply q_var (i := 1)
      with_unfolding_all first | exact ⟨rfl, Or.inl rfl, by decide, by decide⟩ | exact ⟨rfl, Or.inr (Or.inl rfl), by decide, by decide⟩ | exact ⟨rfl, Or.inr (Or.inr rfl), by decide, by decide⟩
      apply q_int
      with_unfolding_all exact ⟨kix (K := K) rfl, fun _ _ => rfl⟩
      with_unfolding_all exact ⟨nd, rfl, Or.inl rfl, rfl, Or.inl rfl⟩
      apply q_then
      apply q_set (i := 3)
      apply q_ix
      apply q_var (i := 1)
      with_unfolding_all first | exact ⟨rfl, Or.inl rfl, by decide, by decide⟩ | exact ⟨rfl, Or.inr (Or.inl rfl), by decide, by decide⟩ | exact ⟨rfl, Or.inr (Or.inr rfl), by decide, by decide⟩
      apply q_int
      with_unfolding_all exact ⟨kix (K := K) rfl, fun _ _ => rfl⟩
      with_unfolding_all exact ⟨nd, rfl, Or.inl rfl, rfl, Or.inl rfl⟩
      apply q_then
      apply q_if
      apply q_bool
      apply q_wor
      apply q_tcmp
      apply q_ix
      apply q_var (i := 1)
      with_unfolding_all first | exact ⟨rfl, Or.inl rfl, by decide, by decide⟩ | exact ⟨rfl, Or.inr (Or.inl rfl), by decide, by decide⟩ | exact ⟨rfl, Or.inr (Or.inr rfl), by decide, by decide⟩
      apply q_int
      with_unfolding_all exact ⟨kix (K := K) rfl, fun _ _ => rfl⟩
      apply q_fld (K := K)
      apply q_var (i := 0)
      with_unfolding_all first | exact ⟨rfl, Or.inl rfl, by decide, by decide⟩ | exact ⟨rfl, Or.inr (Or.inl rfl), by decide, by decide⟩ | exact ⟨rfl, Or.inr (Or.inr rfl), by decide, by decide⟩
      with_unfolding_all exact ⟨rfl, rfl⟩
      with_unfolding_all exact ⟨kne (K := K) rfl hr.units, nomark _⟩
      apply q_wor1
      apply q_tnot
      apply q_tchain
      apply q_int
      apply q_var (i := 3)
      with_unfolding_all first | exact ⟨rfl, Or.inl rfl, by decide, by decide⟩ | exact ⟨rfl, Or.inr (Or.inl rfl), by decide, by decide⟩ | exact ⟨rfl, Or.inr (Or.inr rfl), by decide, by decide⟩
      apply q_fld (K := K)
      apply q_var (i := 0)
      with_unfolding_all first | exact ⟨rfl, Or.inl rfl, by decide, by decide⟩ | exact ⟨rfl, Or.inr (Or.inl rfl), by decide, by decide⟩ | exact ⟨rfl, Or.inr (Or.inr rfl), by decide, by decide⟩
      with_unfolding_all exact ⟨rfl, rfl⟩
      with_unfolding_all exact ⟨op_le, op_lt, rfl⟩
      apply q_last
      apply q_ret
      apply q_bl
      apply q_end
      apply q_then
      apply q_if
      apply q_tnot
      apply q_tv
      apply q_isT (K := K)
      apply q_var (i := 2)
      with_unfolding_all first | exact ⟨rfl, Or.inl rfl, by decide, by decide⟩ | exact ⟨rfl, Or.inr (Or.inl rfl), by decide, by decide⟩ | exact ⟨rfl, Or.inr (Or.inr rfl), by decide, by decide⟩
      with_unfolding_all exact ⟨rfl, Z.isinstance, Z.str, bb_str, rfl, rfl, rfl, by decide, by decide⟩
      with_unfolding_all exact fun _ => rfl
      apply q_last
      apply q_ret
      apply q_bl
      apply q_end
      apply q_then
      apply q_if
      apply q_tcmp
      apply q_var (i := 2)
      with_unfolding_all first | exact ⟨rfl, Or.inl rfl, by decide, by decide⟩ | exact ⟨rfl, Or.inr (Or.inl rfl), by decide, by decide⟩ | exact ⟨rfl, Or.inr (Or.inr rfl), by decide, by decide⟩
      apply q_gref
      with_unfolding_all exact ⟨T.ASKING, rfl, by decide⟩
      with_unfolding_all exact ⟨kinB (K := K) rfl hr.units, rfl⟩
      apply q_last
      apply q_ret
      apply q_not
      apply q_meth
      apply q_var (i := 0)
      with_unfolding_all first | exact ⟨rfl, Or.inl rfl, by decide, by decide⟩ | exact ⟨rfl, Or.inr (Or.inl rfl), by decide, by decide⟩ | exact ⟨rfl, Or.inr (Or.inr rfl), by decide, by decide⟩
      apply q_cons
      apply q_var (i := 3)
      with_unfolding_all first | exact ⟨rfl, Or.inl rfl, by decide, by decide⟩ | exact ⟨rfl, Or.inr (Or.inl rfl), by decide, by decide⟩ | exact ⟨rfl, Or.inr (Or.inr rfl), by decide, by decide⟩
      apply q_nil
      with_unfolding_all exact rfl
      with_unfolding_all exact ⟨M_has_asked, hr.mono (by decide), passes_none, rfl, rfl⟩
      apply q_end
      apply q_last
      apply q_ret
      apply q_and
      apply q_cmp
      apply q_var (i := 2)
      with_unfolding_all first | exact ⟨rfl, Or.inl rfl, by decide, by decide⟩ | exact ⟨rfl, Or.inr (Or.inl rfl), by decide, by decide⟩ | exact ⟨rfl, Or.inr (Or.inr rfl), by decide, by decide⟩
      apply q_fld (K := K)
      apply q_var (i := 0)
      with_unfolding_all first | exact ⟨rfl, Or.inl rfl, by decide, by decide⟩ | exact ⟨rfl, Or.inr (Or.inl rfl), by decide, by decide⟩ | exact ⟨rfl, Or.inr (Or.inr rfl), by decide, by decide⟩
      with_unfolding_all exact ⟨rfl, rfl⟩
      with_unfolding_all exact ⟨keq (K := K) rfl hr.units, nomark _⟩
      apply q_one
      apply q_cmp
      apply q_var (i := 3)
      with_unfolding_all first | exact ⟨rfl, Or.inl rfl, by decide, by decide⟩ | exact ⟨rfl, Or.inr (Or.inl rfl), by decide, by decide⟩ | exact ⟨rfl, Or.inr (Or.inr rfl), by decide, by decide⟩
      apply q_call
      apply q_cons
      apply q_fld (K := K)
      apply q_var (i := 0)
      with_unfolding_all first | exact ⟨rfl, Or.inl rfl, by decide, by decide⟩ | exact ⟨rfl, Or.inr (Or.inl rfl), by decide, by decide⟩ | exact ⟨rfl, Or.inr (Or.inr rfl), by decide, by decide⟩
      with_unfolding_all exact ⟨rfl, rfl⟩
      apply q_nil
      with_unfolding_all exact rfl
      with_unfolding_all exact ⟨C_nears_in, hr.mono (by decide), rfl, passes_none, rfl, by decide⟩
      with_unfolding_all exact ⟨kinB (K := K) rfl hr.units, rfl⟩
    obtain ⟨v, e, hv⟩ := id hq
    refine ⟨_, rfl, .inr (.inl ⟨q, _, _, _, rfl, rfl, SqT.of e, rfl, ?_⟩)⟩
    refine ⟨_, rfl, .inr (.inl ⟨q, _, _, _, rfl, rfl, SqT.of e, rfl, ?_⟩)⟩
    dsimp only [gName]
    refine st_norm (σ' := [some (.ref a), some (.ref q), some (.str l.word), some (.int l.near)]) rfl ?_
    have kk := k H (Same.refl H)
    unfold awaitsB at kk k
    refine ⟨_, rfl, .inr (.inl ⟨q, _, _, _, rfl, rfl, SqT.of e, rfl, _, rfl, a, _, dx, _, _, rfl, ha, S.cl, S.a0, Hm.g0, .inl ⟨rfl, _, rfl, iteNe (fun z => ?_) (fun z => ?_)⟩⟩)⟩
    · rw [if_pos (.inl z)] at kk
      exact iteT kk
    refine ⟨_, rfl, _, _, rfl, rfl, _, rfl, iteD (fun z1 => ?_) (fun z1 => ?_)⟩
    rotate_left
    · rw [if_pos (.inr fun y => z1 y.1)] at kk
      exact ⟨false, rfl, iteT kk⟩
    refine ⟨_, rfl, a, _, dx, _, _, rfl, ha, S.cl, S.a1, Hm.g1, _, _, rfl, rfl, _, rfl, iteND (fun z2 => ?_) (fun z2 => ?_)⟩
    · rw [if_pos (.inr fun y => z2 y.2)] at kk
      exact kk
    have ng : ¬ (l.line ≠ st.line ∨ ¬ (0 ≤ l.near ∧ l.near < ((st.n : Nat) : Int))) := fun y => y.elim (fun y => y z) fun y => y ⟨z1, z2⟩
    rw [if_neg ng] at kk
    refine ⟨_, rfl, _, "str", "str", rfl, by simp, .str l.word, true, rfl, iteF ?_⟩
    refine ⟨_, rfl, .inl (.inl ⟨aA, askVs, rfl, .inr (T.sqA H), rfl, rfl, asks l.word, rfl, iteB (fun h1 => ?_) (fun h1 => ?_)⟩)⟩
    · refine ⟨_, rfl, a, _, dx, _, [], _, rfl, ha, (by kernel_rfl), ⟨rfl, rfl, rfl⟩, _, rfl, a, pS, st, l.near, rfl, hH, hlen, fun H1 s1 => ⟨_, rfl, ?_⟩⟩
      have k1 := k H1 s1
      rw [if_neg ng, if_pos h1] at k1
      exact k1
    rw [if_neg (by rw [h1]; decide)] at kk
    cases haw : st.aw with
    | none =>
      rw [haw] at kk
      exact ⟨_, rfl, _, rfl, a, _, dx, _, _, rfl, ha, S.cl, S.a7, Hm.g7.trans (congrArg some (show oS st.aw = .non by rw [haw]; rfl)), .inl ⟨rfl, false, rfl, iteF kk⟩⟩
    | some x =>
      rw [haw] at kk
      have ed : decide (V.str l.word = V.str x) = decide (some x = some l.word) := by
        rw [Bool.eq_iff_iff]
        simp only [decide_eq_true_eq, V.str.injEq, Option.some.injEq]
        exact ⟨Eq.symm, Eq.symm⟩
      refine ⟨_, rfl, _, rfl, a, _, dx, _, _, rfl, ha, S.cl, S.a7, Hm.g7.trans (congrArg some (show oS st.aw = .str x by rw [haw]; rfl)), .inl ⟨rfl, decide (some x = some l.word), by rw [← ed], iteB (fun h2 => ?_) (fun h2 => ?_)⟩⟩
      · refine ⟨_, rfl, _, rfl, a, _, dx, _, _, rfl, ha, S.cl, S.a8, Hm.g8, st.an, rfl, fun q2 H1 s1 hq2 e1 => .inl (.inl ⟨q2, _, rfl, .inl (SqL.of e1), rfl, flat_natV _, ?_⟩)⟩
        have k1 := k H1 s1
        have n64 := hH.ok.n64
        obtain ⟨m, hm⟩ : ∃ m : Nat, l.near = ((m : Nat) : Int) := ⟨l.near.toNat, by omega⟩
        rw [if_neg ng, if_neg (by rw [h1]; decide), haw, h2, Bool.true_and, hm, Int.toNat_natCast] at k1
        rw [hm]
        show Q (.bl (inV (.int ((m : Nat) : Int)) (natV (inS st.an)))) H1
        rw [in_natV (by omega)]
        exact k1
      · rw [h2, Bool.false_and] at kk
        exact kk
def spStrike (cH : Addr) : Sp := fun vs H Q _ => ∃ (a pS q : Addr) (st : Hm) (l : Ltr), vs = [.ref a, .ref q] ∧ HomeAt cH H a pS st ∧ LtAt H q l ∧ LtIn l ∧ ∀ H', SB [a, pS] H H' → HomeAt cH H' a pS (strikeM st l) → Q .non H'
theorem sc_strike_out : FnScope ["self", "letter"] ["self", "letter"] (defScope sHome_strike_out) := ⟨rfl, rfl, rfl, by decide +kernel, rfl, by decide +kernel, by decide +kernel⟩
theorem ok_strike_out {f : Addr} {fd : FuncData} (F : FunD K "strike_out" "Home.strike_out" sHome_strike_out f fd .none) (S : HCl K cH) (C_without_near : CalD P w K mg base (CXE P w) 1 "without_near" ["bits", "near"] [] spWithout) : FnOk P w K mg base (CXE P w) 2 f fd ["self", "letter"] (spStrike cH) := by
  refine F.ok0 sc_strike_out (fun vs H Q E h => ?_) (fun cdv A outer s H vs Q E hr h => ?_)
  · obtain ⟨a, pS, q, st, l, rfl, _⟩ := h
    rfl
  · obtain ⟨a, pS, q, st, l, rfl, hH, hq, hin, k⟩ := h
    obtain ⟨dx, vf, vw, qs, ha, hvf, hvw, hS, hl⟩ := id hH.ex
    apply body_of
    (conv => arg 2; whnf)
    with_reducible
      apply q_then
      apply q_if
      apply q_tcmp
      apply q_fld (K := K)
      apply q_var (i := 0)
      with_unfolding_all first | exact ⟨rfl, Or.inl rfl, by decide, by decide⟩ | exact ⟨rfl, Or.inr (Or.inl rfl), by decide, by decide⟩ | exact ⟨rfl, Or.inr (Or.inr rfl), by decide, by decide⟩
      with_unfolding_all exact ⟨rfl, rfl⟩
      apply q_ix
      apply q_var (i := 1)
      with_unfolding_all first | exact ⟨rfl, Or.inl rfl, by decide, by decide⟩ | exact ⟨rfl, Or.inr (Or.inl rfl), by decide, by decide⟩ | exact ⟨rfl, Or.inr (Or.inr rfl), by decide, by decide⟩
      apply q_int
      with_unfolding_all exact ⟨kix (K := K) rfl, fun _ _ => rfl⟩
      with_unfolding_all exact ⟨keq (K := K) rfl hr.units, nomark _⟩
      apply q_then
      apply q_sfld (K := K)
      apply q_ix
      apply q_var (i := 1)
      with_unfolding_all first | exact ⟨rfl, Or.inl rfl, by decide, by decide⟩ | exact ⟨rfl, Or.inr (Or.inl rfl), by decide, by decide⟩ | exact ⟨rfl, Or.inr (Or.inr rfl), by decide, by decide⟩
      apply q_int
      with_unfolding_all exact ⟨kix (K := K) rfl, fun _ _ => rfl⟩
      apply q_var (i := 0)
      with_unfolding_all first | exact ⟨rfl, Or.inl rfl, by decide, by decide⟩ | exact ⟨rfl, Or.inr (Or.inl rfl), by decide, by decide⟩ | exact ⟨rfl, Or.inr (Or.inr rfl), by decide, by decide⟩
      with_unfolding_all exact ⟨rfl, rfl⟩
      apply q_last
      apply q_sfld (K := K)
      apply q_non
      apply q_var (i := 0)
      with_unfolding_all first | exact ⟨rfl, Or.inl rfl, by decide, by decide⟩ | exact ⟨rfl, Or.inr (Or.inl rfl), by decide, by decide⟩ | exact ⟨rfl, Or.inr (Or.inr rfl), by decide, by decide⟩
      with_unfolding_all exact ⟨rfl, rfl⟩
      apply q_end
      apply q_last
      apply q_sfld (K := K)
      apply q_call
      apply q_cons
      apply q_fld (K := K)
      apply q_var (i := 0)
      with_unfolding_all first | exact ⟨rfl, Or.inl rfl, by decide, by decide⟩ | exact ⟨rfl, Or.inr (Or.inl rfl), by decide, by decide⟩ | exact ⟨rfl, Or.inr (Or.inr rfl), by decide, by decide⟩
      with_unfolding_all exact ⟨rfl, rfl⟩
      apply q_cons
      apply q_ix
      apply q_var (i := 1)
      with_unfolding_all first | exact ⟨rfl, Or.inl rfl, by decide, by decide⟩ | exact ⟨rfl, Or.inr (Or.inl rfl), by decide, by decide⟩ | exact ⟨rfl, Or.inr (Or.inr rfl), by decide, by decide⟩
      apply q_int
      with_unfolding_all exact ⟨kix (K := K) rfl, fun _ _ => rfl⟩
      apply q_nil
      with_unfolding_all exact rfl
      with_unfolding_all exact rfl
      with_unfolding_all exact ⟨C_without_near, hr.mono (by decide), rfl, passes_none, rfl, by decide⟩
      apply q_var (i := 0)
      with_unfolding_all first | exact ⟨rfl, Or.inl rfl, by decide, by decide⟩ | exact ⟨rfl, Or.inr (Or.inl rfl), by decide, by decide⟩ | exact ⟨rfl, Or.inr (Or.inr rfl), by decide, by decide⟩
      with_unfolding_all exact ⟨rfl, rfl⟩
    obtain ⟨v, e, hv⟩ := id hq
    obtain ⟨m, hm⟩ : ∃ m : Nat, l.near = ((m : Nat) : Int) := ⟨l.near.toNat, by have := hin.1; omega⟩
    have hm64 : m < 64 := by have := hin.2; omega
    have emn : l.near.toNat = m := by rw [hm, Int.toNat_natCast]
    have r0 : RawH cH H a pS dx st vf vw qs := ⟨ha, hvf, hvw, hS, hl⟩
    have ok0 := hH.ok
    -- the last row, behind either way
    have last : ∀ (H1 : Hp) (s1 : Hm) (vf1 : V), SB [a, pS] H H1 → RawH cH H1 a pS dx s1 vf1 vw qs → HmOk { s1 with rd := setS s1.rd m false } → strikeM st l = { s1 with rd := setS s1.rd m false } → H1 q = some (.tup [.str l.word, .int l.line, .int l.near, v]) →
        (sFld K (tVar 0) (tCallX spWithout [] (fun _ => E0) (tCons (tFld K (tVar 0) "readers") (tCons (tOp (rIx K) (tVar 1) (tC (.int 2))) tNil))) "readers") { nx := fun _ H' => Q .non H', rt := Q } [some (.ref a), some (.ref q)] H1 := by
      intro H1 s1 vf1 sb r1 ok1 es e1
      refine ⟨_, rfl, a, _, dx, _, _, rfl, r1.obj, S.cl, S.a4, Hm.g4, _, rfl, .inr (.inl ⟨q, _, _, _, rfl, rfl, SqT.of e1, rfl, _, s1.rd, m, by rw [hm]; rfl, rfl, hm64, _, rfl, a, _, dx, _, rfl, r1.obj, S.cl, S.a4, RawH.len, ?_⟩)⟩
      rw [Hm.p4]
      exact k _ (sb.trans sb_obj) (es ▸ (r1.put { s1 with rd := setS s1.rd m false } rfl r1.far r1.wk).at ok1)
    have okr : HmOk { st with rd := setS st.rd m false } := ⟨ok0.n64, ok0.wr, ok0.row, ok0.wk⟩
    cases hwr : st.writer with
    | none =>
      refine ⟨_, rfl, a, _, dx, _, _, rfl, ha, S.cl, S.a3, Hm.g3.trans (congrArg some (show oI st.writer = .non by rw [hwr]; rfl)), _, rfl, .inr (.inl ⟨q, _, _, _, rfl, rfl, SqT.of e, rfl, .inl ⟨rfl, false, rfl, iteF ?_⟩⟩)⟩
      exact last H st vf (SB.refl H) r0 okr (by unfold strikeM; rw [hwr, emn]; exact if_neg (by intro z; cases z)) e
    | some j =>
      refine ⟨_, rfl, a, _, dx, _, _, rfl, ha, S.cl, S.a3, Hm.g3.trans (congrArg some (show oI st.writer = .int ((j : Nat) : Int) by rw [hwr]; rfl)), _, rfl, .inr (.inl ⟨q, _, _, _, rfl, rfl, SqT.of e, rfl, .inl ⟨rfl, _, rfl, iteEq (fun z => ?_) (fun z => ?_)⟩⟩)⟩
      · have hj : j = m := by omega
        refine ⟨_, rfl, .inr (.inl ⟨q, _, _, _, rfl, rfl, SqT.of e, rfl, _, rfl, a, _, dx, _, rfl, ha, S.cl, S.a2, RawH.len, ?_⟩)⟩
        have ep2 : putF "far_words" v (st.fs vf pS vw) = ({ st with far := l.words } : Hm).fs v pS vw := Hm.p2
        rw [ep2]
        have r1 := r0.put { st with far := l.words } (vf' := v) rfl hv r0.wk
        have e1 := kt_updI (gs := ({ st with far := l.words } : Hm).fs v pS vw) r0.obj _ _ e
        have sb1 : SB [a, pS] H (L2.upd H a (.ins cH dx (({ st with far := l.words } : Hm).fs v pS vw))) := sb_obj
        generalize L2.upd H a (.ins cH dx (({ st with far := l.words } : Hm).fs v pS vw)) = H1 at r1 e1 sb1 ⊢
        refine ⟨_, rfl, a, _, dx, _, rfl, r1.obj, S.cl, S.a3, RawH.len, ?_⟩
        have ep : putF "writer" .non (({ st with far := l.words } : Hm).fs v pS vw) = ({ st with far := l.words, writer := none } : Hm).fs v pS vw := Hm.p3 (st := { st with far := l.words }) none
        rw [ep]
        have r2 := r1.put { st with far := l.words, writer := none } (vf' := v) rfl r1.far r1.wk
        have e2 := kt_updI (gs := ({ st with far := l.words, writer := none } : Hm).fs v pS vw) r1.obj _ _ e1
        exact last _ _ v (sb1.trans sb_obj) r2 ⟨ok0.n64, fun _ h => (by cases h), ok0.row, ok0.wk⟩ (by unfold strikeM; rw [hwr, emn, hj]; exact if_pos rfl) e2
      · exact last H st vf (SB.refl H) r0 okr (by unfold strikeM; rw [hwr, emn]; exact if_neg (fun y => z (by have := Option.some.inj y; omega))) e
end
end K36

set_option Elab.async false
set_option linter.all false
set_option maxRecDepth 100000
set_option maxHeartbeats 1000000
namespace K36
open PySem L2
/-! ### the program: a home, what it sends -/
section
variable {P : Program} {w : World} {K : PySem.W.Frag} {mg : Str → Option Value} {base : Heap} {cH aA cU : Addr}
/-- behind something sent: the home, a new list of letters -/
def Sent (cH : Addr) (H : Hp) (a pS : Addr) (r : Hm × List Ltr) (Q : VK) : Prop := ∀ p ps H', SB [a, pS] H H' → H p = none → HomeAt cH H' a pS r.1 → H' p = some (.lst (ps.map V.ref)) → Lets H' ps r.2 → Q (.ref p) H'
theorem free_of {c : Addr} {H H' : Hp} {a pS dx p : Addr} {st : Hm} {vf vw : V} {qs : List Addr} (r : RawH c H' a pS dx st vf vw qs) (sb : SB [a, pS] H H') (h : H' p = none) : H p = none := by
  cases e : H p with
  | none => rfl
  | some o =>
    exfalso
    by_cases z : p ∈ [a, pS]
    · rcases List.mem_cons.mp z with rfl | z
      · rw [r.obj] at h
        cases h
      · obtain rfl := List.mem_singleton.mp z
        rw [r.lst] at h
        cases h
    · rw [sb _ _ e z] at h
      cases h
theorem Sent.back {c : Addr} {H H' : Hp} {a pS dx : Addr} {st : Hm} {vf vw : V} {qs : List Addr} {r : Hm × List Ltr} {Q : VK} (k : Sent c H a pS r Q) (rw' : RawH c H' a pS dx st vf vw qs) (sb : SB [a, pS] H H') : Sent c H' a pS r Q :=
  fun p ps H2 s2 hp h2 e2 l2 => k p ps H2 (sb.trans s2) (free_of rw' sb hp) h2 e2 l2
theorem word_home {x : Str} (h : x ∈ (["read", "write", "back", "lowered", "yielded", "took"] : List Str)) : IsWord x := .inl (by
  have : inV (.str x) homeVs = decide (x ∈ (["read", "write", "back", "lowered", "yielded", "took"] : List Str)) := inV_mem (x := x) (xs := ["read", "write", "back", "lowered", "yielded", "took"])
  rw [this]
  exact decide_eq_true h)
theorem word_near {x : Str} (h : x ∈ (["lower", "yield", "share", "own", "gone"] : List Str)) : IsWord x := .inr (by
  have : inV (.str x) nearVs = decide (x ∈ (["lower", "yield", "share", "own", "gone"] : List Str)) := inV_mem (x := x) (xs := ["lower", "yield", "share", "own", "gone"])
  rw [this]
  exact decide_eq_true h)
theorem cut {a b : TS} {D : Ends} {σ : St} {H : Hp} (I : St → Hp → Prop) (h2 : ∀ σ H, I σ H → b D σ H) (h1 : (∀ σ H, I σ H → b D σ H) → tSeq a b D σ H) : tSeq a b D σ H := h1 h2
def spGrant (cH : Addr) : Sp := fun vs H Q _ => ∃ (a pS : Addr) (st : Hm) (wl : Ltr), vs = [.ref a] ∧ HomeAt cH H a pS st ∧ st.work = some wl ∧ Sent cH H a pS (grantM st wl) Q
theorem sc_grant : FnScope ["self", "near"] ["self"] (defScope sHome_grant) := ⟨rfl, rfl, rfl, by decide +kernel, rfl, by decide +kernel, by decide +kernel⟩
theorem ok_grant {f : Addr} {fd : FuncData} (F : FunD K "grant" "Home.grant" sHome_grant f fd .none) (S : HCl K cH) (C_with_near : CalD P w K mg base (CXE P w) 1 "with_near" ["bits", "near"] [] spWith) (M_letter_of : MS P w K mg base 3 (RR cH (spLetterOf cH)) "letter_of") : FnOk P w K mg base (CXE P w) 4 f fd ["self"] (spGrant cH) := by
  refine F.ok0 sc_grant (fun vs H Q E h => ?_) (fun cdv A outer s H vs Q E hr h => ?_)
  · obtain ⟨a, pS, st, wl, rfl, _⟩ := h
    rfl
  · obtain ⟨a, pS, st, wl, rfl, hH, hw, k⟩ := h
    obtain ⟨dx, vf, vw, qs, r0⟩ := hH.raw
    have nd := sc_grant.nd
    apply body_of
    (conv => arg 2; whnf)
    with_reducible
      apply q_then
      apply q_set (i := 1)
      apply q_ix
      apply q_fld (K := K)
      apply q_var (i := 0)
      with_unfolding_all first | exact ⟨rfl, Or.inl rfl, by decide, by decide⟩ | exact ⟨rfl, Or.inr (Or.inl rfl), by decide, by decide⟩ | exact ⟨rfl, Or.inr (Or.inr rfl), by decide, by decide⟩
      with_unfolding_all exact ⟨rfl, rfl⟩
      apply q_int
      with_unfolding_all exact ⟨kix (K := K) rfl, fun _ _ => rfl⟩
      with_unfolding_all exact ⟨nd, rfl, Or.inl rfl, rfl, Or.inl rfl⟩
      apply q_then
      apply q_sfld (K := K)
      apply q_str
      apply q_var (i := 0)
      with_unfolding_all first | exact ⟨rfl, Or.inl rfl, by decide, by decide⟩ | exact ⟨rfl, Or.inr (Or.inl rfl), by decide, by decide⟩ | exact ⟨rfl, Or.inr (Or.inr rfl), by decide, by decide⟩
      with_unfolding_all exact ⟨rfl, rfl⟩
      apply q_then
      apply q_sfld (K := K)
      apply q_call
      apply q_cons
      apply q_int
      apply q_cons
      apply q_var (i := 1)
      with_unfolding_all first | exact ⟨rfl, Or.inl rfl, by decide, by decide⟩ | exact ⟨rfl, Or.inr (Or.inl rfl), by decide, by decide⟩ | exact ⟨rfl, Or.inr (Or.inr rfl), by decide, by decide⟩
      apply q_nil
      with_unfolding_all exact rfl
      with_unfolding_all exact rfl
      with_unfolding_all exact ⟨C_with_near, hr.mono (by decide), rfl, passes_none, rfl, by decide⟩
      apply q_var (i := 0)
      with_unfolding_all first | exact ⟨rfl, Or.inl rfl, by decide, by decide⟩ | exact ⟨rfl, Or.inr (Or.inl rfl), by decide, by decide⟩ | exact ⟨rfl, Or.inr (Or.inr rfl), by decide, by decide⟩
      with_unfolding_all exact ⟨rfl, rfl⟩
      apply q_then
      apply q_if
      apply q_tcmp
      apply q_ix
      apply q_fld (K := K)
      apply q_var (i := 0)
      with_unfolding_all first | exact ⟨rfl, Or.inl rfl, by decide, by decide⟩ | exact ⟨rfl, Or.inr (Or.inl rfl), by decide, by decide⟩ | exact ⟨rfl, Or.inr (Or.inr rfl), by decide, by decide⟩
      with_unfolding_all exact ⟨rfl, rfl⟩
      apply q_int
      with_unfolding_all exact ⟨kix (K := K) rfl, fun _ _ => rfl⟩
      apply q_str
      with_unfolding_all exact ⟨keq (K := K) rfl hr.units, nomark _⟩
      apply q_then
      apply q_sfld (K := K)
      apply q_call
      apply q_cons
      apply q_fld (K := K)
      apply q_var (i := 0)
      with_unfolding_all first | exact ⟨rfl, Or.inl rfl, by decide, by decide⟩ | exact ⟨rfl, Or.inr (Or.inl rfl), by decide, by decide⟩ | exact ⟨rfl, Or.inr (Or.inr rfl), by decide, by decide⟩
      with_unfolding_all exact ⟨rfl, rfl⟩
      apply q_cons
      apply q_var (i := 1)
      with_unfolding_all first | exact ⟨rfl, Or.inl rfl, by decide, by decide⟩ | exact ⟨rfl, Or.inr (Or.inl rfl), by decide, by decide⟩ | exact ⟨rfl, Or.inr (Or.inr rfl), by decide, by decide⟩
      apply q_nil
      with_unfolding_all exact rfl
      with_unfolding_all exact rfl
      with_unfolding_all exact ⟨C_with_near, hr.mono (by decide), rfl, passes_none, rfl, by decide⟩
      apply q_var (i := 0)
      with_unfolding_all first | exact ⟨rfl, Or.inl rfl, by decide, by decide⟩ | exact ⟨rfl, Or.inr (Or.inl rfl), by decide, by decide⟩ | exact ⟨rfl, Or.inr (Or.inr rfl), by decide, by decide⟩
      with_unfolding_all exact ⟨rfl, rfl⟩
      apply q_last
      apply q_ret
      apply q_lstA
      apply q_cons
      apply q_meth
      apply q_var (i := 0)
      with_unfolding_all first | exact ⟨rfl, Or.inl rfl, by decide, by decide⟩ | exact ⟨rfl, Or.inr (Or.inl rfl), by decide, by decide⟩ | exact ⟨rfl, Or.inr (Or.inr rfl), by decide, by decide⟩
      apply q_cons
      apply q_str
      apply q_cons
      apply q_var (i := 1)
      with_unfolding_all first | exact ⟨rfl, Or.inl rfl, by decide, by decide⟩ | exact ⟨rfl, Or.inr (Or.inl rfl), by decide, by decide⟩ | exact ⟨rfl, Or.inr (Or.inr rfl), by decide, by decide⟩
      apply q_cons
      apply q_fld (K := K)
      apply q_var (i := 0)
      with_unfolding_all first | exact ⟨rfl, Or.inl rfl, by decide, by decide⟩ | exact ⟨rfl, Or.inr (Or.inl rfl), by decide, by decide⟩ | exact ⟨rfl, Or.inr (Or.inr rfl), by decide, by decide⟩
      with_unfolding_all exact ⟨rfl, rfl⟩
      apply q_nil
      with_unfolding_all exact rfl
      with_unfolding_all exact rfl
      with_unfolding_all exact rfl
      with_unfolding_all exact ⟨M_letter_of, hr.mono (by decide), passes_none, rfl, rfl⟩
      apply q_nil
      with_unfolding_all exact rfl
      apply q_end
      apply q_then
      apply q_sfld (K := K)
      apply q_var (i := 1)
      with_unfolding_all first | exact ⟨rfl, Or.inl rfl, by decide, by decide⟩ | exact ⟨rfl, Or.inr (Or.inl rfl), by decide, by decide⟩ | exact ⟨rfl, Or.inr (Or.inr rfl), by decide, by decide⟩
      apply q_var (i := 0)
      with_unfolding_all first | exact ⟨rfl, Or.inl rfl, by decide, by decide⟩ | exact ⟨rfl, Or.inr (Or.inl rfl), by decide, by decide⟩ | exact ⟨rfl, Or.inr (Or.inr rfl), by decide, by decide⟩
      with_unfolding_all exact ⟨rfl, rfl⟩
      apply q_then
      apply q_sfld (K := K)
      apply q_int
      apply q_var (i := 0)
      with_unfolding_all first | exact ⟨rfl, Or.inl rfl, by decide, by decide⟩ | exact ⟨rfl, Or.inr (Or.inl rfl), by decide, by decide⟩ | exact ⟨rfl, Or.inr (Or.inr rfl), by decide, by decide⟩
      with_unfolding_all exact ⟨rfl, rfl⟩
      apply q_last
      apply q_ret
      apply q_lstA
      apply q_cons
      apply q_meth
      apply q_var (i := 0)
      with_unfolding_all first | exact ⟨rfl, Or.inl rfl, by decide, by decide⟩ | exact ⟨rfl, Or.inr (Or.inl rfl), by decide, by decide⟩ | exact ⟨rfl, Or.inr (Or.inr rfl), by decide, by decide⟩
      apply q_cons
      apply q_str
      apply q_cons
      apply q_var (i := 1)
      with_unfolding_all first | exact ⟨rfl, Or.inl rfl, by decide, by decide⟩ | exact ⟨rfl, Or.inr (Or.inl rfl), by decide, by decide⟩ | exact ⟨rfl, Or.inr (Or.inr rfl), by decide, by decide⟩
      apply q_cons
      apply q_fld (K := K)
      apply q_var (i := 0)
      with_unfolding_all first | exact ⟨rfl, Or.inl rfl, by decide, by decide⟩ | exact ⟨rfl, Or.inr (Or.inl rfl), by decide, by decide⟩ | exact ⟨rfl, Or.inr (Or.inr rfl), by decide, by decide⟩
      with_unfolding_all exact ⟨rfl, rfl⟩
      apply q_nil
      with_unfolding_all exact rfl
      with_unfolding_all exact rfl
      with_unfolding_all exact rfl
      with_unfolding_all exact ⟨M_letter_of, hr.mono (by decide), passes_none, rfl, rfl⟩
      apply q_nil
      with_unfolding_all exact rfl
    have hin := hH.ok.wk wl hw
    obtain ⟨m, hm⟩ : ∃ m : Nat, wl.near = ((m : Nat) : Int) := ⟨wl.near.toNat, by have := hin.1; omega⟩
    have hm64 : m < 64 := by have := hin.2; omega
    have emn : wl.near.toNat = m := by rw [hm, Int.toNat_natCast]
    have ok0 := hH.ok
    have wk0 := r0.wk
    rw [hw] at wk0
    obtain ⟨qw, rfl, vww, eq, hvw⟩ := wk0
    refine ⟨_, rfl, a, _, dx, _, _, rfl, r0.obj, S.cl, S.a6, Hm.g6, .inr (.inl ⟨qw, _, _, _, rfl, rfl, SqT.of eq, rfl, ?_⟩)⟩
    dsimp only [gName]
    rw [hm]
    refine st_norm (σ' := [some (.ref a), some (.int ((m : Nat) : Int))]) rfl ?_
    refine ⟨_, rfl, a, _, dx, _, rfl, r0.obj, S.cl, S.a7, RawH.len, ?_⟩
    have ep1 : putF "awaited_word" (.str "took") (st.fs vf pS (.ref qw)) = ({ st with aw := some ("took" : Str) } : Hm).fs vf pS (.ref qw) := Hm.p7 (some ("took" : Str))
    rw [ep1]
    have r1 := r0.put { st with aw := some ("took" : Str) } rfl r0.far r0.wk
    have sb1 : SB [a, pS] H (L2.upd H a (.ins cH dx (({ st with aw := some ("took" : Str) } : Hm).fs vf pS (.ref qw)))) := sb_obj
    generalize L2.upd H a (.ins cH dx (({ st with aw := some ("took" : Str) } : Hm).fs vf pS (.ref qw))) = H1 at r1 sb1 ⊢
    refine ⟨_, rfl, 0, noneS, m, rfl, noneS_num.symm, hm64, _, rfl, a, _, dx, _, rfl, r1.obj, S.cl, S.a8, RawH.len, ?_⟩
    rw [Hm.p8]
    have r2 := r1.put { st with aw := some ("took" : Str), an := setS noneS m true } rfl r1.far r1.wk
    have sb2 : SB [a, pS] H (L2.upd H1 a (.ins cH dx (({ st with aw := some ("took" : Str), an := setS noneS m true } : Hm).fs vf pS (.ref qw)))) := sb1.trans sb_obj
    generalize L2.upd H1 a (.ins cH dx (({ st with aw := some ("took" : Str), an := setS noneS m true } : Hm).fs vf pS (.ref qw))) = H2 at r2 sb2 ⊢
    have wk2 := r2.wk
    rw [show ({ st with aw := some ("took" : Str), an := setS noneS m true } : Hm).work = some wl from hw] at wk2
    obtain ⟨qw', eqw, vw2, eq2, _⟩ := wk2
    obtain rfl : qw = qw' := V.ref.inj eqw
    refine ⟨_, rfl, a, _, dx, _, _, rfl, r2.obj, S.cl, S.a6, Hm.g6, .inr (.inl ⟨qw, _, _, _, rfl, rfl, SqT.of eq2, rfl, .inl ⟨rfl, _, rfl, iteD (fun z => ?_) (fun z => ?_)⟩⟩)⟩
    · have hword : wl.word = "read" := V.str.inj z
      have eg : grantM st wl = ({ st with aw := some ("took" : Str), an := setS noneS m true, rd := setS st.rd m true }, [⟨"share", st.line, ((m : Nat) : Int), st.far⟩]) := by
        unfold grantM
        rw [if_pos hword, emn, hm]
      rw [eg] at k
      refine ⟨_, rfl, a, _, dx, _, _, rfl, r2.obj, S.cl, S.a4, Hm.g4, _, rfl, _, st.rd, m, rfl, rfl, hm64, _, rfl, a, _, dx, _, rfl, r2.obj, S.cl, S.a4, RawH.len, ?_⟩
      rw [Hm.p4]
      have r3 := r2.put { st with aw := some ("took" : Str), an := setS noneS m true, rd := setS st.rd m true } rfl r2.far r2.wk
      have sb3 : SB [a, pS] H (L2.upd H2 a (.ins cH dx (({ st with aw := some ("took" : Str), an := setS noneS m true, rd := setS st.rd m true } : Hm).fs vf pS (.ref qw)))) := sb2.trans sb_obj
      generalize L2.upd H2 a (.ins cH dx (({ st with aw := some ("took" : Str), an := setS noneS m true, rd := setS st.rd m true } : Hm).fs vf pS (.ref qw))) = H3 at r3 sb3 ⊢
      have ok3 : HmOk { st with aw := some ("took" : Str), an := setS noneS m true, rd := setS st.rd m true } := ⟨ok0.n64, ok0.wr, ok0.row, ok0.wk⟩
      refine ⟨_, rfl, a, _, dx, _, [], _, rfl, r3.obj, (by kernel_rfl), ⟨rfl, rfl, rfl⟩, _, rfl, _, rfl, a, _, dx, _, _, rfl, r3.obj, S.cl, S.a2, Hm.g2, a, pS, _, "share", ((m : Nat) : Int), vf, st.far, rfl, r3.at ok3, word_near (by simp), r3.far, fun p4 H4 s4 hp4 hl4 => ⟨by show 1 ≤ sizeLine; decide, fun p5 H5 n5 => ?_⟩⟩
      have r5 := (r3.keep s4).keep n5.2.1
      exact k p5 [p4] H5 (sb3.trans (SB.of (s4.trans n5.2.1))) (free_of (r3.keep s4) (sb3.trans (SB.of s4)) n5.1) (r5.at ok3) n5.2.2 (.cons (hl4.kt n5.2.1.kt) .nil)
    · have hword : wl.word ≠ "read" := fun y => z (by rw [y])
      have eg : grantM st wl = ({ st with aw := some ("took" : Str), an := setS noneS m true, writer := some m, rd := noneS }, [⟨"own", st.line, ((m : Nat) : Int), st.far⟩]) := by
        unfold grantM
        rw [if_neg hword, emn, hm]
      rw [eg] at k
      refine ⟨_, rfl, _, rfl, a, _, dx, _, rfl, r2.obj, S.cl, S.a3, RawH.len, ?_⟩
      have ep3 : putF "writer" (.int ((m : Nat) : Int)) (({ st with aw := some ("took" : Str), an := setS noneS m true } : Hm).fs vf pS (.ref qw)) = ({ st with aw := some ("took" : Str), an := setS noneS m true, writer := some m } : Hm).fs vf pS (.ref qw) := Hm.p3 (st := { st with aw := some ("took" : Str), an := setS noneS m true }) (some m)
      rw [ep3]
      have r3 := r2.put { st with aw := some ("took" : Str), an := setS noneS m true, writer := some m } rfl r2.far r2.wk
      have sb3 : SB [a, pS] H (L2.upd H2 a (.ins cH dx (({ st with aw := some ("took" : Str), an := setS noneS m true, writer := some m } : Hm).fs vf pS (.ref qw)))) := sb2.trans sb_obj
      generalize L2.upd H2 a (.ins cH dx (({ st with aw := some ("took" : Str), an := setS noneS m true, writer := some m } : Hm).fs vf pS (.ref qw))) = H3 at r3 sb3 ⊢
      refine ⟨_, rfl, a, _, dx, _, rfl, r3.obj, S.cl, S.a4, RawH.len, ?_⟩
      have ep4 : putF "readers" (.int 0) (({ st with aw := some ("took" : Str), an := setS noneS m true, writer := some m } : Hm).fs vf pS (.ref qw)) = ({ st with aw := some ("took" : Str), an := setS noneS m true, writer := some m, rd := noneS } : Hm).fs vf pS (.ref qw) := by
        rw [← noneS_num]
        exact Hm.p4 (st := { st with aw := some ("took" : Str), an := setS noneS m true, writer := some m }) noneS
      rw [ep4]
      have r4 := r3.put { st with aw := some ("took" : Str), an := setS noneS m true, writer := some m, rd := noneS } rfl r3.far r3.wk
      have sb4 : SB [a, pS] H (L2.upd H3 a (.ins cH dx (({ st with aw := some ("took" : Str), an := setS noneS m true, writer := some m, rd := noneS } : Hm).fs vf pS (.ref qw)))) := sb3.trans sb_obj
      generalize L2.upd H3 a (.ins cH dx (({ st with aw := some ("took" : Str), an := setS noneS m true, writer := some m, rd := noneS } : Hm).fs vf pS (.ref qw))) = H4 at r4 sb4 ⊢
      have ok4 : HmOk { st with aw := some ("took" : Str), an := setS noneS m true, writer := some m, rd := noneS } := ⟨ok0.n64, fun j hj => (by obtain rfl := Option.some.inj hj; exact hm64), ok0.row, ok0.wk⟩
      refine ⟨_, rfl, a, _, dx, _, [], _, rfl, r4.obj, (by kernel_rfl), ⟨rfl, rfl, rfl⟩, _, rfl, _, rfl, a, _, dx, _, _, rfl, r4.obj, S.cl, S.a2, Hm.g2, a, pS, _, "own", ((m : Nat) : Int), vf, st.far, rfl, r4.at ok4, word_near (by simp), r4.far, fun p4 H5 s4 hp4 hl4 => ⟨by show 1 ≤ sizeLine; decide, fun p5 H6 n5 => ?_⟩⟩
      have r5 := (r4.keep s4).keep n5.2.1
      exact k p5 [p4] H6 (sb4.trans (SB.of (s4.trans n5.2.1))) (free_of (r4.keep s4) (sb4.trans (SB.of s4)) n5.1) (r5.at ok4) n5.2.2 (.cons (hl4.kt n5.2.1.kt) .nil)
def spCallIn (cH : Addr) : Sp := fun vs H Q _ => ∃ (a pS : Addr) (st : Hm) (wl : Ltr) (word ans : Str) (t : NSet), vs = [.ref a, .str word, .str ans, .int (numS t)] ∧ HomeAt cH H a pS st ∧ st.work = some wl ∧ IsWord word ∧ Sent cH H a pS (callM st wl word ans t) Q
theorem sc_call_in : FnScope ["self", "word", "answer", "nears"] ["self", "word", "answer", "nears"] (defScope sHome_call_in) := ⟨rfl, rfl, rfl, by decide +kernel, rfl, by decide +kernel, by decide +kernel⟩
theorem ok_call_in {f : Addr} {fd : FuncData} (F : FunD K "call_in" "Home.call_in" sHome_call_in f fd .none) (S : HCl K cH) (C_nears_in : CalD P w K mg base (CXE P w) 1 "nears_in" ["bits"] [] spNears) (M_letter_of : MS P w K mg base 3 (RR cH (spLetterOf cH)) "letter_of") (M_grant : MS P w K mg base 4 (RR cH (spGrant cH)) "grant") : FnOk P w K mg base (CXE P w) 5 f fd ["self", "word", "answer", "nears"] (spCallIn cH) := by
  refine F.ok0 sc_call_in (fun vs H Q E h => ?_) (fun cdv A outer s H vs Q E hr h => ?_)
  · obtain ⟨a, pS, st, wl, word, ans, t, rfl, _⟩ := h
    rfl
  · obtain ⟨a, pS, st, wl, word, ans, t, rfl, hH, hw, hwd, k⟩ := h
    obtain ⟨dx, vf, vw, qs, r0⟩ := hH.raw
    have nd := sc_call_in.nd
    apply body_of
    (conv => arg 2; whnf)
    with_reducible
      apply q_then
      apply q_if
      apply q_tcmp
      apply q_var (i := 3)
      with_unfolding_all first | exact ⟨rfl, Or.inl rfl, by decide, by decide⟩ | exact ⟨rfl, Or.inr (Or.inl rfl), by decide, by decide⟩ | exact ⟨rfl, Or.inr (Or.inr rfl), by decide, by decide⟩
      apply q_int
      with_unfolding_all exact ⟨keq (K := K) rfl hr.units, nomark _⟩
      apply q_last
      apply q_ret
      apply q_meth0
      apply q_var (i := 0)
      with_unfolding_all first | exact ⟨rfl, Or.inl rfl, by decide, by decide⟩ | exact ⟨rfl, Or.inr (Or.inl rfl), by decide, by decide⟩ | exact ⟨rfl, Or.inr (Or.inr rfl), by decide, by decide⟩
      with_unfolding_all exact ⟨M_grant, hr.mono (by decide), passes_none, rfl⟩
      apply q_end
      apply q_then
      apply q_sfld (K := K)
      apply q_var (i := 2)
      with_unfolding_all first | exact ⟨rfl, Or.inl rfl, by decide, by decide⟩ | exact ⟨rfl, Or.inr (Or.inl rfl), by decide, by decide⟩ | exact ⟨rfl, Or.inr (Or.inr rfl), by decide, by decide⟩
      apply q_var (i := 0)
      with_unfolding_all first | exact ⟨rfl, Or.inl rfl, by decide, by decide⟩ | exact ⟨rfl, Or.inr (Or.inl rfl), by decide, by decide⟩ | exact ⟨rfl, Or.inr (Or.inr rfl), by decide, by decide⟩
      with_unfolding_all exact ⟨rfl, rfl⟩
      apply q_then
      apply q_sfld (K := K)
      apply q_var (i := 3)
      with_unfolding_all first | exact ⟨rfl, Or.inl rfl, by decide, by decide⟩ | exact ⟨rfl, Or.inr (Or.inl rfl), by decide, by decide⟩ | exact ⟨rfl, Or.inr (Or.inr rfl), by decide, by decide⟩
      apply q_var (i := 0)
      with_unfolding_all first | exact ⟨rfl, Or.inl rfl, by decide, by decide⟩ | exact ⟨rfl, Or.inr (Or.inl rfl), by decide, by decide⟩ | exact ⟨rfl, Or.inr (Or.inr rfl), by decide, by decide⟩
      with_unfolding_all exact ⟨rfl, rfl⟩
      apply q_last
      apply q_ret
      apply q_comp (N' := ["word", "self", "near"]) (ix := [some 1, some 0, none]) (i0 := 2)
      apply q_iseq (K := K)
      apply q_call
      apply q_cons
      apply q_var (i := 3)
      with_unfolding_all first | exact ⟨rfl, Or.inl rfl, by decide, by decide⟩ | exact ⟨rfl, Or.inr (Or.inl rfl), by decide, by decide⟩ | exact ⟨rfl, Or.inr (Or.inr rfl), by decide, by decide⟩
      apply q_nil
      with_unfolding_all exact rfl
      with_unfolding_all exact ⟨C_nears_in, hr.mono (by decide), rfl, passes_none, rfl, by decide⟩
      with_unfolding_all exact rfl
      intro cl C s2 H2 fp
      apply q_ifnil
      intro cl C s2 H2 fp
      apply q_meth
      apply q_var (i := 1)
      with_unfolding_all first | exact ⟨rfl, Or.inl rfl, by decide, by decide⟩ | exact ⟨rfl, Or.inr (Or.inl rfl), by decide, by decide⟩ | exact ⟨rfl, Or.inr (Or.inr rfl), by decide, by decide⟩
      apply q_cons
      apply q_var (i := 0)
      with_unfolding_all first | exact ⟨rfl, Or.inl rfl, by decide, by decide⟩ | exact ⟨rfl, Or.inr (Or.inl rfl), by decide, by decide⟩ | exact ⟨rfl, Or.inr (Or.inr rfl), by decide, by decide⟩
      apply q_cons
      apply q_var (i := 2)
      with_unfolding_all first | exact ⟨rfl, Or.inl rfl, by decide, by decide⟩ | exact ⟨rfl, Or.inr (Or.inl rfl), by decide, by decide⟩ | exact ⟨rfl, Or.inr (Or.inr rfl), by decide, by decide⟩
      apply q_cons
      apply q_non
      apply q_nil
      with_unfolding_all exact rfl
      with_unfolding_all exact rfl
      with_unfolding_all exact rfl
      with_unfolding_all exact ⟨M_letter_of, hr.mono (by decide), passes_none, rfl, rfl⟩
      with_unfolding_all exact ⟨by kernel_rfl, rfl, rfl, rfl, rfl, fun _ => rfl⟩
    have ok0 := hH.ok
    refine ⟨_, rfl, .inl ⟨rfl, _, rfl, iteEq (fun z => ?_) (fun z => ?_)⟩⟩
    · refine ⟨_, rfl, a, _, dx, _, [], _, rfl, r0.obj, (by kernel_rfl), ⟨rfl, rfl, rfl⟩, a, pS, st, wl, rfl, hH, hw, ?_⟩
      have e : callM st wl word ans t = grantM st wl := if_pos (zeroS_in.mp z)
      rw [e] at k
      exact k
    have e : callM st wl word ans t = ({ st with aw := some ans, an := t }, (inS t).map fun k => ⟨word, st.line, ((k : Nat) : Int), none⟩) := if_neg (fun y => z (zeroS_in.mpr y))
    rw [e] at k
    refine ⟨_, rfl, _, rfl, a, _, dx, _, rfl, r0.obj, S.cl, S.a7, RawH.len, ?_⟩
    have ep1 : putF "awaited_word" (.str ans) (st.fs vf pS vw) = ({ st with aw := some ans } : Hm).fs vf pS vw := Hm.p7 (some ans)
    rw [ep1]
    have r1 := r0.put { st with aw := some ans } rfl r0.far r0.wk
    have sb1 : SB [a, pS] H (L2.upd H a (.ins cH dx (({ st with aw := some ans } : Hm).fs vf pS vw))) := sb_obj
    generalize L2.upd H a (.ins cH dx (({ st with aw := some ans } : Hm).fs vf pS vw)) = H1 at r1 sb1 ⊢
    refine ⟨_, rfl, _, rfl, a, _, dx, _, rfl, r1.obj, S.cl, S.a8, RawH.len, ?_⟩
    rw [Hm.p8]
    have r2 := r1.put { st with aw := some ans, an := t } rfl r1.far r1.wk
    have sb2 : SB [a, pS] H (L2.upd H1 a (.ins cH dx (({ st with aw := some ans, an := t } : Hm).fs vf pS vw))) := sb1.trans sb_obj
    generalize L2.upd H1 a (.ins cH dx (({ st with aw := some ans, an := t } : Hm).fs vf pS vw)) = H2 at r2 sb2 ⊢
    have ok2 : HmOk { st with aw := some ans, an := t } := ⟨ok0.n64, ok0.wr, ok0.row, ok0.wk⟩
    have l64 : (inS t).length ≤ 64 := by
      unfold inS
      have := List.length_filter_le t (List.range 64)
      rwa [List.length_range] at this
    refine .inl ⟨_, rfl, t, rfl, fun q2 H3 s3 hq2 e3 => ⟨q2, rfl, ⟨_, SqL.of e3⟩, fun D hD => comp_lstR (K := K) (fun i ys H' => ∃ ps : List Addr, ys = ps.map V.ref ∧ Lets H' ps (((inS t).take i).map fun k => ⟨word, st.line, ((k : Nat) : Int), none⟩)) hD (SqL.of e3) (by unfold natV; rw [List.length_map]; omega) (fun H' _ => ⟨[], rfl, .nil⟩) (fun i ys H' ⟨ps, e, hl⟩ => ?_) (fun i ys H' zs us ⟨ps, e, hl⟩ hz => ⟨ps, e, hl.kt (kt_updL hz)⟩) (fun i x H' ys Qy Qn ex sm hR hy hn => ?_) fun H5 ys s5 hR e5 => ?_⟩⟩
    · rw [e, List.length_map, hl.length, List.length_map, List.length_take]
      omega
    · obtain ⟨ps, rfl, hl⟩ := hR
      obtain ⟨j, hj, rfl⟩ : ∃ j, (inS t)[i]? = some j ∧ x = .int ((j : Nat) : Int) := by
        unfold natV at ex
        rw [List.getElem?_map] at ex
        cases h : (inS t)[i]? with
        | none => rw [h] at ex; cases ex
        | some j => rw [h] at ex; exact ⟨j, rfl, (Option.some.inj ex).symm⟩
      have r4 := (r2.keep s3).keep sm
      refine iteT (B := Qn H') ⟨_, rfl, a, _, dx, _, [], _, rfl, r4.obj, (by kernel_rfl), ⟨rfl, rfl, rfl⟩, _, rfl, _, rfl, a, pS, _, word, ((j : Nat) : Int), .non, none, rfl, r4.at ok2, hwd, rfl, fun p4 H4 s4 hp4 hl4 => hy H4 _ s4 ⟨ps ++ [p4], by rw [List.map_append]; rfl, ?_⟩⟩
      rw [List.take_add_one, hj, List.map_append]
      exact Lets.app (.cons hl4 .nil) (hl.kt s4.kt)
    · obtain ⟨ps, rfl, hl⟩ := hR
      have r5 := (r2.keep s3).keep s5
      have el : (natV (inS t)).length = (inS t).length := List.length_map ..
      rw [el, List.take_length] at hl
      exact k D ps H5 (sb2.trans (SB.of (s3.trans s5))) (free_of (r2.keep s3) (sb2.trans (SB.of s3)) hD) (r5.at ok2) e5 hl
def spBegin (cH : Addr) : Sp := fun vs H Q _ => ∃ (a pS q : Addr) (st : Hm) (l : Ltr), vs = [.ref a, .ref q] ∧ HomeAt cH H a pS st ∧ LtAt H q l ∧ LtIn l ∧ Sent cH H a pS (beginM st l) Q
theorem sc_begin : FnScope ["self", "letter", "writers"] ["self", "letter"] (defScope sHome_begin) := ⟨rfl, rfl, rfl, by decide +kernel, rfl, by decide +kernel, by decide +kernel⟩
theorem ok_begin {f : Addr} {fd : FuncData} (F : FunD K "begin" "Home.begin" sHome_begin f fd .none) (S : HCl K cH) (C_with_near : CalD P w K mg base (CXE P w) 1 "with_near" ["bits", "near"] [] spWith) (C_without_near : CalD P w K mg base (CXE P w) 1 "without_near" ["bits", "near"] [] spWithout) (M_strike_out : MS P w K mg base 2 (RR cH (spStrike cH)) "strike_out") (M_letter_of : MS P w K mg base 3 (RR cH (spLetterOf cH)) "letter_of") (M_call_in : MS P w K mg base 5 (RR cH (spCallIn cH)) "call_in") : FnOk P w K mg base (CXE P w) 6 f fd ["self", "letter"] (spBegin cH) := by
  refine F.ok0 sc_begin (fun vs H Q E h => ?_) (fun cdv A outer s H vs Q E hr h => ?_)
  · obtain ⟨a, pS, q, st, l, rfl, _⟩ := h
    rfl
  · obtain ⟨a, pS, q, st, l, rfl, hH, hq, hin, k⟩ := h
    obtain ⟨dx, vf, vw, qs, r0⟩ := hH.raw
    have nd := sc_begin.nd
    apply body_of
    (conv => arg 2; whnf)
    with_reducible
      apply q_then
      apply q_if
      apply q_tcmp
      apply q_ix
      apply q_var (i := 1)
      with_unfolding_all first | exact ⟨rfl, Or.inl rfl, by decide, by decide⟩ | exact ⟨rfl, Or.inr (Or.inl rfl), by decide, by decide⟩ | exact ⟨rfl, Or.inr (Or.inr rfl), by decide, by decide⟩
      apply q_int
      with_unfolding_all exact ⟨kix (K := K) rfl, fun _ _ => rfl⟩
      apply q_str
      with_unfolding_all exact ⟨keq (K := K) rfl hr.units, nomark _⟩
      apply q_then
      apply q_expr
      apply q_meth
      apply q_var (i := 0)
      with_unfolding_all first | exact ⟨rfl, Or.inl rfl, by decide, by decide⟩ | exact ⟨rfl, Or.inr (Or.inl rfl), by decide, by decide⟩ | exact ⟨rfl, Or.inr (Or.inr rfl), by decide, by decide⟩
      apply q_cons
      apply q_var (i := 1)
      with_unfolding_all first | exact ⟨rfl, Or.inl rfl, by decide, by decide⟩ | exact ⟨rfl, Or.inr (Or.inl rfl), by decide, by decide⟩ | exact ⟨rfl, Or.inr (Or.inr rfl), by decide, by decide⟩
      apply q_nil
      with_unfolding_all exact rfl
      with_unfolding_all exact ⟨M_strike_out, hr.mono (by decide), passes_none, rfl, rfl⟩
      with_unfolding_all exact rfl
      apply q_last
      apply q_ret
      apply q_lstA
      apply q_cons
      apply q_meth
      apply q_var (i := 0)
      with_unfolding_all first | exact ⟨rfl, Or.inl rfl, by decide, by decide⟩ | exact ⟨rfl, Or.inr (Or.inl rfl), by decide, by decide⟩ | exact ⟨rfl, Or.inr (Or.inr rfl), by decide, by decide⟩
      apply q_cons
      apply q_str
      apply q_cons
      apply q_ix
      apply q_var (i := 1)
      with_unfolding_all first | exact ⟨rfl, Or.inl rfl, by decide, by decide⟩ | exact ⟨rfl, Or.inr (Or.inl rfl), by decide, by decide⟩ | exact ⟨rfl, Or.inr (Or.inr rfl), by decide, by decide⟩
      apply q_int
      with_unfolding_all exact ⟨kix (K := K) rfl, fun _ _ => rfl⟩
      apply q_cons
      apply q_non
      apply q_nil
      with_unfolding_all exact rfl
      with_unfolding_all exact rfl
      with_unfolding_all exact rfl
      with_unfolding_all exact ⟨M_letter_of, hr.mono (by decide), passes_none, rfl, rfl⟩
      apply q_nil
      with_unfolding_all exact rfl
      apply q_end
      apply q_then
      apply q_sfld (K := K)
      apply q_var (i := 1)
      with_unfolding_all first | exact ⟨rfl, Or.inl rfl, by decide, by decide⟩ | exact ⟨rfl, Or.inr (Or.inl rfl), by decide, by decide⟩ | exact ⟨rfl, Or.inr (Or.inr rfl), by decide, by decide⟩
      apply q_var (i := 0)
      with_unfolding_all first | exact ⟨rfl, Or.inl rfl, by decide, by decide⟩ | exact ⟨rfl, Or.inr (Or.inl rfl), by decide, by decide⟩ | exact ⟨rfl, Or.inr (Or.inr rfl), by decide, by decide⟩
      with_unfolding_all exact ⟨rfl, rfl⟩
      apply q_then
      apply q_set (i := 2)
      apply q_ifx
      apply q_tcmp
      apply q_fld (K := K)
      apply q_var (i := 0)
      with_unfolding_all first | exact ⟨rfl, Or.inl rfl, by decide, by decide⟩ | exact ⟨rfl, Or.inr (Or.inl rfl), by decide, by decide⟩ | exact ⟨rfl, Or.inr (Or.inr rfl), by decide, by decide⟩
      with_unfolding_all exact ⟨rfl, rfl⟩
      apply q_non
      with_unfolding_all exact ⟨op_isN, nomark _⟩
      apply q_int
      apply q_call
      apply q_cons
      apply q_int
      apply q_cons
      apply q_fld (K := K)
      apply q_var (i := 0)
      with_unfolding_all first | exact ⟨rfl, Or.inl rfl, by decide, by decide⟩ | exact ⟨rfl, Or.inr (Or.inl rfl), by decide, by decide⟩ | exact ⟨rfl, Or.inr (Or.inr rfl), by decide, by decide⟩
      with_unfolding_all exact ⟨rfl, rfl⟩
      apply q_nil
      with_unfolding_all exact rfl
      with_unfolding_all exact rfl
      with_unfolding_all exact ⟨C_with_near, hr.mono (by decide), rfl, passes_none, rfl, by decide⟩
      with_unfolding_all exact ⟨nd, rfl, Or.inl rfl, rfl, Or.inl rfl⟩
      apply q_then
      apply q_if
      apply q_tcmp
      apply q_ix
      apply q_var (i := 1)
      with_unfolding_all first | exact ⟨rfl, Or.inl rfl, by decide, by decide⟩ | exact ⟨rfl, Or.inr (Or.inl rfl), by decide, by decide⟩ | exact ⟨rfl, Or.inr (Or.inr rfl), by decide, by decide⟩
      apply q_int
      with_unfolding_all exact ⟨kix (K := K) rfl, fun _ _ => rfl⟩
      apply q_str
      with_unfolding_all exact ⟨keq (K := K) rfl hr.units, nomark _⟩
      apply q_last
      apply q_ret
      apply q_meth
      apply q_var (i := 0)
      with_unfolding_all first | exact ⟨rfl, Or.inl rfl, by decide, by decide⟩ | exact ⟨rfl, Or.inr (Or.inl rfl), by decide, by decide⟩ | exact ⟨rfl, Or.inr (Or.inr rfl), by decide, by decide⟩
      apply q_cons
      apply q_str
      apply q_cons
      apply q_str
      apply q_cons
      apply q_var (i := 2)
      with_unfolding_all first | exact ⟨rfl, Or.inl rfl, by decide, by decide⟩ | exact ⟨rfl, Or.inr (Or.inl rfl), by decide, by decide⟩ | exact ⟨rfl, Or.inr (Or.inr rfl), by decide, by decide⟩
      apply q_nil
      with_unfolding_all exact rfl
      with_unfolding_all exact rfl
      with_unfolding_all exact rfl
      with_unfolding_all exact ⟨M_call_in, hr.mono (by decide), passes_none, rfl, rfl⟩
      apply q_end
      apply q_last
      apply q_ret
      apply q_meth
      apply q_var (i := 0)
      with_unfolding_all first | exact ⟨rfl, Or.inl rfl, by decide, by decide⟩ | exact ⟨rfl, Or.inr (Or.inl rfl), by decide, by decide⟩ | exact ⟨rfl, Or.inr (Or.inr rfl), by decide, by decide⟩
      apply q_cons
      apply q_str
      apply q_cons
      apply q_str
      apply q_cons
      apply q_call
      apply q_cons
      apply q_op
      apply q_var (i := 2)
      with_unfolding_all first | exact ⟨rfl, Or.inl rfl, by decide, by decide⟩ | exact ⟨rfl, Or.inr (Or.inl rfl), by decide, by decide⟩ | exact ⟨rfl, Or.inr (Or.inr rfl), by decide, by decide⟩
      apply q_fld (K := K)
      apply q_var (i := 0)
      with_unfolding_all first | exact ⟨rfl, Or.inl rfl, by decide, by decide⟩ | exact ⟨rfl, Or.inr (Or.inl rfl), by decide, by decide⟩ | exact ⟨rfl, Or.inr (Or.inr rfl), by decide, by decide⟩
      with_unfolding_all exact ⟨rfl, rfl⟩
      with_unfolding_all exact op_or
      apply q_cons
      apply q_ix
      apply q_var (i := 1)
      with_unfolding_all first | exact ⟨rfl, Or.inl rfl, by decide, by decide⟩ | exact ⟨rfl, Or.inr (Or.inl rfl), by decide, by decide⟩ | exact ⟨rfl, Or.inr (Or.inr rfl), by decide, by decide⟩
      apply q_int
      with_unfolding_all exact ⟨kix (K := K) rfl, fun _ _ => rfl⟩
      apply q_nil
      with_unfolding_all exact rfl
      with_unfolding_all exact rfl
      with_unfolding_all exact ⟨C_without_near, hr.mono (by decide), rfl, passes_none, rfl, by decide⟩
      apply q_nil
      with_unfolding_all exact rfl
      with_unfolding_all exact rfl
      with_unfolding_all exact rfl
      with_unfolding_all exact ⟨M_call_in, hr.mono (by decide), passes_none, rfl, rfl⟩
    have ok0 := hH.ok
    obtain ⟨v, e, hv⟩ := id hq
    obtain ⟨m, hm⟩ : ∃ m : Nat, l.near = ((m : Nat) : Int) := ⟨l.near.toNat, by have := hin.1; omega⟩
    have hm64 : m < 64 := by have := hin.2; omega
    have emn : l.near.toNat = m := by rw [hm, Int.toNat_natCast]
    refine ⟨_, rfl, .inr (.inl ⟨q, _, _, _, rfl, rfl, SqT.of e, rfl, .inl ⟨rfl, _, rfl, iteD (fun z => ?_) (fun z => ?_)⟩⟩)⟩
    · have hword : l.word = "back" := V.str.inj z
      have eb : beginM st l = (strikeM st l, [⟨"gone", st.line, l.near, none⟩]) := if_pos hword
      rw [eb] at k
      refine ⟨_, rfl, a, _, dx, _, [], _, rfl, r0.obj, (by kernel_rfl), ⟨rfl, rfl, rfl⟩, _, rfl, a, pS, q, st, l, rfl, hH, hq, hin, fun H1 sb1 hH1 => ?_⟩
      obtain ⟨dx1, vf1, vw1, qs1, r1⟩ := hH1.raw
      have e1 := hH.kt sb1 _ _ e
      refine ⟨_, rfl, a, _, dx1, _, [], _, rfl, r1.obj, (by kernel_rfl), ⟨rfl, rfl, rfl⟩, _, rfl, .inr (.inl ⟨q, _, _, _, rfl, rfl, SqT.of e1, rfl, a, pS, _, "gone", l.near, .non, none, rfl, hH1, word_near (by simp), rfl, fun p4 H4 s4 hp4 hl4 => ⟨by show 1 ≤ sizeLine; decide, fun p5 H5 n5 => ?_⟩⟩)⟩
      have el : (strikeM st l).line = st.line := by
        unfold strikeM
        split <;> rfl
      rw [el] at hl4
      exact k p5 [p4] H5 (sb1.trans (SB.of (s4.trans n5.2.1))) (free_of (r1.keep s4) (sb1.trans (SB.of s4)) n5.1) ((hH1.keep s4).keep n5.2.1) n5.2.2 (.cons (hl4.kt n5.2.1.kt) .nil)
    have hword : l.word ≠ "back" := fun y => z (by rw [y])
    refine ⟨_, rfl, _, rfl, a, _, dx, _, rfl, r0.obj, S.cl, S.a6, RawH.len, ?_⟩
    have ep1 : putF "at_work" (.ref q) (st.fs vf pS vw) = ({ st with work := some l } : Hm).fs vf pS (.ref q) := Hm.p6
    rw [ep1]
    have r1 := r0.put { st with work := some l } (vw' := .ref q) rfl r0.far ⟨q, rfl, hq⟩
    have sb1 : SB [a, pS] H (L2.upd H a (.ins cH dx (({ st with work := some l } : Hm).fs vf pS (.ref q)))) := sb_obj
    generalize L2.upd H a (.ins cH dx (({ st with work := some l } : Hm).fs vf pS (.ref q))) = H1 at r1 sb1 ⊢
    have ok1 : HmOk { st with work := some l } := ⟨ok0.n64, ok0.wr, ok0.row, fun l' h => (by obtain rfl := Option.some.inj h; exact hin)⟩
    have e1 := hH.kt sb1 _ _ e
    have k1 := k.back r1 sb1
    dsimp only
    refine cut (fun σ H5 => σ = [some (.ref a), some (.ref q), some (.int (numS (writerS st.writer)))] ∧ H5 = H1) ?tl fun tl => ?hd
    case hd =>
      cases hwr : st.writer with
      | none =>
        refine ⟨_, rfl, a, _, dx, _, _, rfl, r1.obj, S.cl, S.a3, Hm.g3.trans (congrArg some (show oI st.writer = .non by rw [hwr]; rfl)), rfl, true, rfl, iteT ?_⟩
        refine tl _ _ ⟨?_, rfl⟩
        rw [hwr]
        show [some (V.ref a), some (.ref q), some (.int 0)] = [some (.ref a), some (.ref q), some (.int (numS noneS))]
        rw [noneS_num]
      | some j =>
        refine ⟨_, rfl, a, _, dx, _, _, rfl, r1.obj, S.cl, S.a3, Hm.g3.trans (congrArg some (show oI st.writer = .int ((j : Nat) : Int) by rw [hwr]; rfl)), rfl, false, rfl, iteF ⟨_, rfl, a, _, dx, _, _, rfl, r1.obj, S.cl, S.a3, Hm.g3.trans (congrArg some (show oI st.writer = .int ((j : Nat) : Int) by rw [hwr]; rfl)), 0, noneS, j, rfl, noneS_num.symm, ok0.wr j hwr, ?_⟩⟩
        refine tl _ _ ⟨?_, rfl⟩
        rw [hwr]
        rfl
    rintro σ H5 ⟨rfl, rfl⟩
    refine ⟨_, rfl, .inr (.inl ⟨q, _, _, _, rfl, rfl, SqT.of e1, rfl, .inl ⟨rfl, _, rfl, iteD (fun z2 => ?_) (fun z2 => ?_)⟩⟩)⟩
    · have hword2 : l.word = "read" := V.str.inj z2
      have eb : beginM st l = callM { st with work := some l } l "lower" "lowered" (writerS st.writer) := by
        unfold beginM
        rw [if_neg hword, if_pos hword2]
      rw [eb] at k1
      exact ⟨_, rfl, a, _, dx, _, [], _, rfl, r1.obj, (by kernel_rfl), ⟨rfl, rfl, rfl⟩, _, rfl, a, pS, _, l, "lower", "lowered", writerS st.writer, rfl, r1.at ok1, rfl, word_near (by simp), k1⟩
    · have hword2 : l.word ≠ "read" := fun y => z2 (by rw [y])
      have eb : beginM st l = callM { st with work := some l } l "yield" "yielded" (setS (orS (writerS st.writer) st.rd) m false) := by
        unfold beginM
        rw [if_neg hword, if_neg hword2, emn]
      rw [eb] at k1
      refine ⟨_, rfl, a, _, dx, _, [], _, rfl, r1.obj, (by kernel_rfl), ⟨rfl, rfl, rfl⟩, _, rfl, _, rfl, a, _, dx, _, _, rfl, r1.obj, S.cl, S.a4, Hm.g4, _, _, rfl, rfl, _, rfl, .inr (.inl ⟨q, _, _, _, rfl, rfl, SqT.of e1, rfl, _, orS (writerS st.writer) st.rd, m, by rw [hm]; rfl, orS_num, hm64, ?_⟩)⟩
      exact ⟨a, pS, _, l, "yield", "yielded", _, rfl, r1.at ok1, rfl, word_near (by simp), k1⟩
end
end K36

set_option Elab.async false
set_option linter.all false
set_option maxRecDepth 100000
set_option maxHeartbeats 1000000
namespace K36
open PySem L2
/-! ### the program: a home, a letter comes -/
section
variable {P : Program} {w : World} {K : PySem.W.Frag} {mg : Str → Option Value} {base : Heap} {cH aA cU : Addr}
theorem workL_busy {st : Hm} {wl : Ltr} (h : st.work = some wl) : workL st.row st = (st, []) := by
  cases hr : st.row with
  | nil =>
    show ({ st with row := [] }, []) = (st, [])
    rw [← hr]
  | cons l r =>
    unfold workL
    rw [if_pos (by rw [h]; rfl), ← hr]
theorem workL_done {st : Hm} (h : st.row = []) : workL st.row st = (st, []) := by
  rw [h]
  show ({ st with row := [] }, []) = (st, [])
  rw [← h]
theorem workL_row {st : Hm} {x r : List Ltr} : workL r { st with row := x } = workL r st := by cases r <;> rfl
theorem workL_step {st : Hm} {l : Ltr} {r : List Ltr} (h : st.work = none) : workL (l :: r) st = ((workL r (beginM { st with row := r } l).1).1, (beginM { st with row := r } l).2 ++ (workL r (beginM { st with row := r } l).1).2) := by
  show (if st.work.isSome then _ else _) = _
  rw [if_neg (by rw [h]; decide)]
theorem strikeM_same (st : Hm) (l : Ltr) : (strikeM st l).row = st.row ∧ (strikeM st l).work = st.work ∧ (strikeM st l).an = st.an ∧ (strikeM st l).line = st.line ∧ (strikeM st l).n = st.n := by
  unfold strikeM
  split <;> exact ⟨rfl, rfl, rfl, rfl, rfl⟩
theorem grantM_row (st : Hm) (w : Ltr) : (grantM st w).1.row = st.row := by
  unfold grantM
  split <;> rfl
theorem callM_row (st : Hm) (w : Ltr) (x y : Str) (s : NSet) : (callM st w x y s).1.row = st.row := by
  unfold callM
  split
  · exact grantM_row st w
  · rfl
theorem beginM_row (st : Hm) (l : Ltr) : (beginM st l).1.row = st.row := by
  unfold beginM
  split
  · exact (strikeM_same st l).1
  · split <;> rw [callM_row]
theorem inS_len (s : NSet) : (inS s).length ≤ 64 := by
  unfold inS
  have := List.length_filter_le s (List.range 64)
  rwa [List.length_range] at this
theorem grantM_len (st : Hm) (w : Ltr) : (grantM st w).2.length ≤ 64 := by
  unfold grantM
  split <;> (show 1 ≤ 64; decide)
theorem callM_len (st : Hm) (w : Ltr) (x y : Str) (s : NSet) : (callM st w x y s).2.length ≤ 64 := by
  unfold callM
  split
  · exact grantM_len st w
  · show ((inS s).map _).length ≤ 64
    rw [List.length_map]
    exact inS_len s
theorem beginM_len (st : Hm) (l : Ltr) : (beginM st l).2.length ≤ 64 := by
  unfold beginM
  split
  · show 1 ≤ 64
    decide
  · split <;> exact callM_len ..
theorem workL_len : ∀ (r : List Ltr) (st : Hm), (workL r st).2.length ≤ 64 * r.length
  | [], st => Nat.zero_le _
  | l :: r, st => by
    cases h : st.work with
    | some wl =>
      have : workL (l :: r) st = ({ st with row := l :: r }, []) := by
        show (if st.work.isSome then _ else _) = _
        rw [if_pos (by rw [h]; rfl)]
      rw [this]
      exact Nat.zero_le _
    | none =>
      rw [workL_step h, List.length_append, List.length_cons]
      have h1 := workL_len r (beginM { st with row := r } l).1
      have h2 := beginM_len { st with row := r } l
      omega
theorem lowM_same (st : Hm) (l : Ltr) : (lowM st l).row = st.row ∧ (lowM st l).work = st.work ∧ (lowM st l).line = st.line ∧ (lowM st l).n = st.n ∧ (lowM st l).an = st.an := by
  obtain ⟨a, b, c, d, e⟩ := strikeM_same st l
  unfold lowM
  split <;> exact ⟨a, b, d, e, c⟩
theorem hearM_row (st : Hm) (l : Ltr) : (hearM st l).1.row = st.row := by
  have h : (heardM st l).row = st.row := (lowM_same st l).1
  unfold hearM
  split
  · rfl
  · split
    · split
      · rw [grantM_row]
        exact h
      · exact h
    · exact h
theorem hearM_len (st : Hm) (l : Ltr) : (hearM st l).2.length ≤ 64 := by
  unfold hearM
  split
  · exact Nat.zero_le _
  · split
    · split
      · exact grantM_len ..
      · exact Nat.zero_le _
    · exact Nat.zero_le _
theorem upd_upd {H : Hp} {x : Addr} {o o' : HO} : L2.upd (L2.upd H x o) x o' = L2.upd H x o' := funext fun b => by
  by_cases h : b = x
  · subst h
    rw [upd_same, upd_same]
  · rw [upd_ne h, upd_ne h, upd_ne h]
theorem big : (100000 : Nat) ≤ sizeLine := by decide
/-- while a home works on -/
def WInv (cH : Addr) (H : Hp) (a pS : Addr) (st : Hm) (m : Nat) (σ : St) (H2 : Hp) : Prop := ∃ (s1 : Hm) (p : Addr) (ps : List Addr) (out : List Ltr), σ = [some (.ref a), some (.ref p)] ∧ m = s1.row.length ∧ SB [a, pS] H H2 ∧ H p = none ∧ HomeAt cH H2 a pS s1 ∧ H2 p = some (.lst (ps.map V.ref)) ∧ Lets H2 ps out ∧ out.length + 64 * s1.row.length ≤ 64 * st.row.length ∧ workL st.row st = ((workL s1.row s1).1, out ++ (workL s1.row s1).2)
def spWorkOn (cH : Addr) : Sp := fun vs H Q _ => ∃ (a pS : Addr) (st : Hm), vs = [.ref a] ∧ HomeAt cH H a pS st ∧ st.row.length ≤ 1000 ∧ Sent cH H a pS (workL st.row st) Q
theorem sc_work_on : FnScope ["self", "sent"] ["self"] (defScope sHome_work_on) := ⟨rfl, rfl, rfl, by decide +kernel, rfl, by decide +kernel, by decide +kernel⟩
theorem ok_work_on {f : Addr} {fd : FuncData} (F : FunD K "work_on" "Home.work_on" sHome_work_on f fd .none) (S : HCl K cH) (M_begin : MS P w K mg base 6 (RR cH (spBegin cH)) "begin") : FnOk P w K mg base (CXE P w) 7 f fd ["self"] (spWorkOn cH) := by
  refine F.ok0 sc_work_on (fun vs H Q E h => ?_) (fun cdv A outer s H vs Q E hr h => ?_)
  · obtain ⟨a, pS, st, rfl, _⟩ := h
    rfl
  · obtain ⟨a, pS, st, rfl, hH, hlen, k⟩ := h
    have nd := sc_work_on.nd
    apply body_of
    (conv => arg 2; whnf)
    with_reducible
      apply q_then
      apply q_set (i := 1)
      apply q_lstA
      apply q_nil
      with_unfolding_all exact ⟨nd, rfl, Or.inl rfl, rfl, Or.inl rfl⟩
      apply q_then
      apply q_while
      apply q_bool
      apply q_wand
      apply q_tcmp
      apply q_fld (K := K)
      apply q_var (i := 0)
      with_unfolding_all first | exact ⟨rfl, Or.inl rfl, by decide, by decide⟩ | exact ⟨rfl, Or.inr (Or.inl rfl), by decide, by decide⟩ | exact ⟨rfl, Or.inr (Or.inr rfl), by decide, by decide⟩
      with_unfolding_all exact ⟨rfl, rfl⟩
      apply q_non
      with_unfolding_all exact ⟨op_isN, nomark _⟩
      apply q_wand1
      apply q_truA (K := K)
      apply q_fld (K := K)
      apply q_var (i := 0)
      with_unfolding_all first | exact ⟨rfl, Or.inl rfl, by decide, by decide⟩ | exact ⟨rfl, Or.inr (Or.inl rfl), by decide, by decide⟩ | exact ⟨rfl, Or.inr (Or.inr rfl), by decide, by decide⟩
      with_unfolding_all exact ⟨rfl, rfl⟩
      with_unfolding_all exact ⟨rfl, fun _ => rfl⟩
      apply q_last
      apply q_set (i := 1)
      apply q_op
      apply q_var (i := 1)
      with_unfolding_all first | exact ⟨rfl, Or.inl rfl, by decide, by decide⟩ | exact ⟨rfl, Or.inr (Or.inl rfl), by decide, by decide⟩ | exact ⟨rfl, Or.inr (Or.inr rfl), by decide, by decide⟩
      apply q_meth
      apply q_var (i := 0)
      with_unfolding_all first | exact ⟨rfl, Or.inl rfl, by decide, by decide⟩ | exact ⟨rfl, Or.inr (Or.inl rfl), by decide, by decide⟩ | exact ⟨rfl, Or.inr (Or.inr rfl), by decide, by decide⟩
      apply q_cons
      apply q_bm (K := K)
      apply q_fld (K := K)
      apply q_var (i := 0)
      with_unfolding_all first | exact ⟨rfl, Or.inl rfl, by decide, by decide⟩ | exact ⟨rfl, Or.inr (Or.inl rfl), by decide, by decide⟩ | exact ⟨rfl, Or.inr (Or.inr rfl), by decide, by decide⟩
      with_unfolding_all exact ⟨rfl, rfl⟩
      apply q_cons
      apply q_int
      apply q_nil
      with_unfolding_all exact rfl
      with_unfolding_all exact ⟨rfl, mt_popAt, PySem.F.plainAttrs_list, PySem.F.slot_list_pop, PySem.F.type_list_pop, rfl, rfl, rfl, rfl⟩
      apply q_nil
      with_unfolding_all exact rfl
      with_unfolding_all exact ⟨M_begin, hr.mono (by decide), passes_none, rfl, rfl⟩
      with_unfolding_all exact kaddB (K := K) rfl
      with_unfolding_all exact ⟨nd, rfl, Or.inl rfl, rfl, Or.inl rfl⟩
      with_unfolding_all exact PassesOwn.never
      apply q_last
      apply q_ret
      apply q_var (i := 1)
      with_unfolding_all first | exact ⟨rfl, Or.inl rfl, by decide, by decide⟩ | exact ⟨rfl, Or.inr (Or.inl rfl), by decide, by decide⟩ | exact ⟨rfl, Or.inr (Or.inr rfl), by decide, by decide⟩
    refine ⟨Nat.zero_le _, fun p H1 n1 => ?_⟩
    dsimp only [gName]
    refine st_norm (σ' := [some (.ref a), some (.ref p)]) rfl ?_
    refine ⟨WInv cH H a pS st, ⟨_, st, p, [], [], rfl, rfl, SB.of n1.2.1, n1.1, hH.keep n1.2.1, n1.2.2, .nil, by simp, by simp⟩, ?_⟩
    rintro m σ H2 ⟨s1, p, ps, out, rfl, rfl, sb, hp, h1, e1, l1, hb, ew⟩
    obtain ⟨dx, vf, vw, qs, r⟩ := h1.raw
    cases hw : s1.work with
    | some wl =>
      have wk := r.wk
      rw [hw] at wk
      obtain ⟨qw, rfl, _⟩ := wk
      refine ⟨_, rfl, a, _, dx, _, _, rfl, r.obj, S.cl, S.a6, Hm.g6, rfl, false, rfl, iteF (iteF ?_)⟩
      rw [ew, workL_busy hw, List.append_nil] at k
      exact ⟨_, rfl, k p ps H2 sb hp h1 e1 l1⟩
    | none =>
      have wk := r.wk
      rw [hw] at wk
      obtain rfl : vw = .non := wk
      refine ⟨_, rfl, a, _, dx, _, _, rfl, r.obj, S.cl, S.a6, Hm.g6, rfl, true, rfl, iteT ?_⟩
      cases hrow : s1.row with
      | nil =>
        have hl := r.row
        rw [hrow] at hl
        have hqs : qs = [] := List.length_eq_zero_iff.mp (by rw [hl.length]; rfl)
        subst hqs
        refine ⟨_, rfl, a, _, dx, _, _, rfl, r.obj, S.cl, S.a5, Hm.g5, false, .inl ⟨_, SqL.of r.lst, rfl⟩, iteF ?_⟩
        rw [ew, workL_done hrow, List.append_nil] at k
        exact ⟨_, rfl, k p ps H2 sb hp h1 e1 l1⟩
      | cons l rs =>
        have hl := r.row
        rw [hrow] at hl
        cases hl with
        | @cons q _ qs' _ hq hl' =>
          refine ⟨_, rfl, a, _, dx, _, _, rfl, r.obj, S.cl, S.a5, Hm.g5, true, .inl ⟨_, SqL.of r.lst, rfl⟩, iteT ⟨WInv cH H a pS st rs.length, fun σ' H' h => ⟨rs.length, by show rs.length < (l :: rs).length; exact Nat.lt_succ_self _, h⟩, ?_⟩⟩
          refine ⟨_, rfl, _, rfl, a, _, dx, _, [], _, rfl, r.obj, (by kernel_rfl), ⟨rfl, rfl, rfl⟩, _, rfl, a, _, dx, _, _, rfl, r.obj, S.cl, S.a5, Hm.g5, .inl ⟨rfl, _, SqL.of r.lst⟩, pS, _, 0, 0, .ref q, rfl, rfl, r.lst, by decide, by decide, ?_, rfl, ?_⟩
          · rw [List.length_map, List.length_cons]
            show seqIndex? 0 (qs'.length + 1) = some 0
            exact (ixN_seq (ixN_nat (n := qs'.length + 1) (i := 0) (by omega))).1
          have el : ((q :: qs').map V.ref).eraseIdx 0 = qs'.map V.ref := rfl
          rw [el]
          have r3 := r.putL hl'
          have hq3 := hq.kt (kt_updL (ys := qs'.map V.ref) r.lst)
          have sb3 : SB [a, pS] H (L2.upd H2 pS (.lst (qs'.map V.ref))) := sb.trans sb_lst
          have pn : p ∉ [a, pS] := fun z => by
            obtain ⟨dx0, vf0, vw0, qs0, r0⟩ := hH.raw
            rcases List.mem_cons.mp z with rfl | z
            · rw [r0.obj] at hp
              cases hp
            · obtain rfl := List.mem_singleton.mp z
              rw [r0.lst] at hp
              cases hp
          have e3 : (L2.upd H2 pS (.lst (qs'.map V.ref))) p = some (.lst (ps.map V.ref)) := sb_lst _ _ e1 pn
          have l3 := l1.kt (kt_updL (ys := qs'.map V.ref) r.lst)
          generalize L2.upd H2 pS (.lst (qs'.map V.ref)) = H3 at r3 hq3 sb3 e3 l3 ⊢
          have ok3 : HmOk { s1 with row := rs } := ⟨h1.ok.n64, h1.ok.wr, fun l' h => h1.ok.row l' (by rw [hrow]; exact List.mem_cons_of_mem _ h), h1.ok.wk⟩
          refine ⟨a, pS, q, _, l, rfl, r3.at ok3, hq3, h1.ok.row l (by rw [hrow]; simp), fun p4 ps4 H4 sb4 hp4 h4 e4 l4 => ?_⟩
          have bl := beginM_len { s1 with row := rs } l
          have br := beginM_row { s1 with row := rs } l
          rw [hrow, List.length_cons] at hb
          refine .inr (.inr (.inl ⟨p, p4, _, _, rfl, rfl, sb4 _ _ e3 pn, e4, ?_, fun p5 H5 n5 => ?_⟩))
          · rw [List.length_map, List.length_map, l3.length, l4.length]
            have := big
            omega
          · have k4 := (r3.at ok3).kt sb4
            refine ⟨(beginM { s1 with row := rs } l).1, p5, ps ++ ps4, out ++ (beginM { s1 with row := rs } l).2, rfl, by rw [br], sb3.trans (sb4.trans (SB.of n5.2.1)), ?_, h4.keep n5.2.1, by rw [n5.2.2, List.map_append], Lets.app (l4.kt n5.2.1.kt) (l3.kt (k4.trans n5.2.1.kt)), by rw [br, List.length_append]; show _ + 64 * rs.length ≤ _; omega, ?_⟩
            · obtain ⟨dx4, vf4, vw4, qs4, r4⟩ := h4.raw
              exact free_of r4 (sb3.trans sb4) n5.1
            · rw [ew, hrow, workL_step hw, br, List.append_assoc]
def spHear (cH : Addr) : Sp := fun vs H Q _ => ∃ (a pS q : Addr) (st : Hm) (l wl : Ltr), vs = [.ref a, .ref q] ∧ HomeAt cH H a pS st ∧ LtAt H q l ∧ LtIn l ∧ st.work = some wl ∧ Sent cH H a pS (hearM st l) Q
theorem sc_hear : FnScope ["self", "letter"] ["self", "letter"] (defScope sHome_hear) := ⟨rfl, rfl, rfl, by decide +kernel, rfl, by decide +kernel, by decide +kernel⟩
theorem ok_hear {f : Addr} {fd : FuncData} (F : FunD K "hear" "Home.hear" sHome_hear f fd .none) (S : HCl K cH) (C_with_near : CalD P w K mg base (CXE P w) 1 "with_near" ["bits", "near"] [] spWith) (C_without_near : CalD P w K mg base (CXE P w) 1 "without_near" ["bits", "near"] [] spWithout) (M_strike_out : MS P w K mg base 2 (RR cH (spStrike cH)) "strike_out") (M_grant : MS P w K mg base 4 (RR cH (spGrant cH)) "grant") : FnOk P w K mg base (CXE P w) 5 f fd ["self", "letter"] (spHear cH) := by
  refine F.ok0 sc_hear (fun vs H Q E h => ?_) (fun cdv A outer s H vs Q E hr h => ?_)
  · obtain ⟨a, pS, q, st, l, wl, rfl, _⟩ := h
    rfl
  · obtain ⟨a, pS, q, st, l, wl, rfl, hH, hq, hin, hw, k⟩ := h
    obtain ⟨dx, vf, vw, qs, r0⟩ := hH.raw
    apply body_of
    (conv => arg 2; whnf)
    with_reducible
      apply q_then
      apply q_if
      apply q_tcmp
      apply q_ix
      apply q_var (i := 1)
      with_unfolding_all first | exact ⟨rfl, Or.inl rfl, by decide, by decide⟩ | exact ⟨rfl, Or.inr (Or.inl rfl), by decide, by decide⟩ | exact ⟨rfl, Or.inr (Or.inr rfl), by decide, by decide⟩
      apply q_int
      with_unfolding_all exact ⟨kix (K := K) rfl, fun _ _ => rfl⟩
      apply q_str
      with_unfolding_all exact ⟨keq (K := K) rfl hr.units, nomark _⟩
      apply q_then
      apply q_sfld (K := K)
      apply q_non
      apply q_var (i := 0)
      with_unfolding_all first | exact ⟨rfl, Or.inl rfl, by decide, by decide⟩ | exact ⟨rfl, Or.inr (Or.inl rfl), by decide, by decide⟩ | exact ⟨rfl, Or.inr (Or.inr rfl), by decide, by decide⟩
      with_unfolding_all exact ⟨rfl, rfl⟩
      apply q_then
      apply q_sfld (K := K)
      apply q_non
      apply q_var (i := 0)
      with_unfolding_all first | exact ⟨rfl, Or.inl rfl, by decide, by decide⟩ | exact ⟨rfl, Or.inr (Or.inl rfl), by decide, by decide⟩ | exact ⟨rfl, Or.inr (Or.inr rfl), by decide, by decide⟩
      with_unfolding_all exact ⟨rfl, rfl⟩
      apply q_then
      apply q_sfld (K := K)
      apply q_int
      apply q_var (i := 0)
      with_unfolding_all first | exact ⟨rfl, Or.inl rfl, by decide, by decide⟩ | exact ⟨rfl, Or.inr (Or.inl rfl), by decide, by decide⟩ | exact ⟨rfl, Or.inr (Or.inr rfl), by decide, by decide⟩
      with_unfolding_all exact ⟨rfl, rfl⟩
      apply q_last
      apply q_ret
      apply q_lstA
      apply q_nil
      apply q_end
      apply q_then
      apply q_expr
      apply q_meth
      apply q_var (i := 0)
      with_unfolding_all first | exact ⟨rfl, Or.inl rfl, by decide, by decide⟩ | exact ⟨rfl, Or.inr (Or.inl rfl), by decide, by decide⟩ | exact ⟨rfl, Or.inr (Or.inr rfl), by decide, by decide⟩
      apply q_cons
      apply q_var (i := 1)
      with_unfolding_all first | exact ⟨rfl, Or.inl rfl, by decide, by decide⟩ | exact ⟨rfl, Or.inr (Or.inl rfl), by decide, by decide⟩ | exact ⟨rfl, Or.inr (Or.inr rfl), by decide, by decide⟩
      apply q_nil
      with_unfolding_all exact rfl
      with_unfolding_all exact ⟨M_strike_out, hr.mono (by decide), passes_none, rfl, rfl⟩
      with_unfolding_all exact rfl
      apply q_then
      apply q_if
      apply q_tcmp
      apply q_ix
      apply q_var (i := 1)
      with_unfolding_all first | exact ⟨rfl, Or.inl rfl, by decide, by decide⟩ | exact ⟨rfl, Or.inr (Or.inl rfl), by decide, by decide⟩ | exact ⟨rfl, Or.inr (Or.inr rfl), by decide, by decide⟩
      apply q_int
      with_unfolding_all exact ⟨kix (K := K) rfl, fun _ _ => rfl⟩
      apply q_str
      with_unfolding_all exact ⟨keq (K := K) rfl hr.units, nomark _⟩
      apply q_last
      apply q_sfld (K := K)
      apply q_call
      apply q_cons
      apply q_fld (K := K)
      apply q_var (i := 0)
      with_unfolding_all first | exact ⟨rfl, Or.inl rfl, by decide, by decide⟩ | exact ⟨rfl, Or.inr (Or.inl rfl), by decide, by decide⟩ | exact ⟨rfl, Or.inr (Or.inr rfl), by decide, by decide⟩
      with_unfolding_all exact ⟨rfl, rfl⟩
      apply q_cons
      apply q_ix
      apply q_var (i := 1)
      with_unfolding_all first | exact ⟨rfl, Or.inl rfl, by decide, by decide⟩ | exact ⟨rfl, Or.inr (Or.inl rfl), by decide, by decide⟩ | exact ⟨rfl, Or.inr (Or.inr rfl), by decide, by decide⟩
      apply q_int
      with_unfolding_all exact ⟨kix (K := K) rfl, fun _ _ => rfl⟩
      apply q_nil
      with_unfolding_all exact rfl
      with_unfolding_all exact rfl
      with_unfolding_all exact ⟨C_with_near, hr.mono (by decide), rfl, passes_none, rfl, by decide⟩
      apply q_var (i := 0)
      with_unfolding_all first | exact ⟨rfl, Or.inl rfl, by decide, by decide⟩ | exact ⟨rfl, Or.inr (Or.inl rfl), by decide, by decide⟩ | exact ⟨rfl, Or.inr (Or.inr rfl), by decide, by decide⟩
      with_unfolding_all exact ⟨rfl, rfl⟩
      apply q_end
      apply q_then
      apply q_sfld (K := K)
      apply q_call
      apply q_cons
      apply q_fld (K := K)
      apply q_var (i := 0)
      with_unfolding_all first | exact ⟨rfl, Or.inl rfl, by decide, by decide⟩ | exact ⟨rfl, Or.inr (Or.inl rfl), by decide, by decide⟩ | exact ⟨rfl, Or.inr (Or.inr rfl), by decide, by decide⟩
      with_unfolding_all exact ⟨rfl, rfl⟩
      apply q_cons
      apply q_ix
      apply q_var (i := 1)
      with_unfolding_all first | exact ⟨rfl, Or.inl rfl, by decide, by decide⟩ | exact ⟨rfl, Or.inr (Or.inl rfl), by decide, by decide⟩ | exact ⟨rfl, Or.inr (Or.inr rfl), by decide, by decide⟩
      apply q_int
      with_unfolding_all exact ⟨kix (K := K) rfl, fun _ _ => rfl⟩
      apply q_nil
      with_unfolding_all exact rfl
      with_unfolding_all exact rfl
      with_unfolding_all exact ⟨C_without_near, hr.mono (by decide), rfl, passes_none, rfl, by decide⟩
      apply q_var (i := 0)
      with_unfolding_all first | exact ⟨rfl, Or.inl rfl, by decide, by decide⟩ | exact ⟨rfl, Or.inr (Or.inl rfl), by decide, by decide⟩ | exact ⟨rfl, Or.inr (Or.inr rfl), by decide, by decide⟩
      with_unfolding_all exact ⟨rfl, rfl⟩
      apply q_then
      apply q_if
      apply q_tcmp
      apply q_fld (K := K)
      apply q_var (i := 0)
      with_unfolding_all first | exact ⟨rfl, Or.inl rfl, by decide, by decide⟩ | exact ⟨rfl, Or.inr (Or.inl rfl), by decide, by decide⟩ | exact ⟨rfl, Or.inr (Or.inr rfl), by decide, by decide⟩
      with_unfolding_all exact ⟨rfl, rfl⟩
      apply q_int
      with_unfolding_all exact ⟨keq (K := K) rfl hr.units, nomark _⟩
      apply q_last
      apply q_ret
      apply q_meth0
      apply q_var (i := 0)
      with_unfolding_all first | exact ⟨rfl, Or.inl rfl, by decide, by decide⟩ | exact ⟨rfl, Or.inr (Or.inl rfl), by decide, by decide⟩ | exact ⟨rfl, Or.inr (Or.inr rfl), by decide, by decide⟩
      with_unfolding_all exact ⟨M_grant, hr.mono (by decide), passes_none, rfl⟩
      apply q_end
      apply q_last
      apply q_ret
      apply q_lstA
      apply q_nil
    have ok0 := hH.ok
    obtain ⟨v, e, hv⟩ := id hq
    obtain ⟨m, hm⟩ : ∃ m : Nat, l.near = ((m : Nat) : Int) := ⟨l.near.toNat, by have := hin.1; omega⟩
    have hm64 : m < 64 := by have := hin.2; omega
    have emn : l.near.toNat = m := by rw [hm, Int.toNat_natCast]
    refine ⟨_, rfl, .inr (.inl ⟨q, _, _, _, rfl, rfl, SqT.of e, rfl, .inl ⟨rfl, _, rfl, iteD (fun z => ?_) (fun z => ?_)⟩⟩)⟩
    · have hword : l.word = "took" := V.str.inj z
      have eh : hearM st l = ({ st with work := none, aw := none, an := noneS }, []) := if_pos hword
      rw [eh] at k
      refine ⟨_, rfl, a, _, dx, _, rfl, r0.obj, S.cl, S.a6, RawH.len, ?_⟩
      have ep1 : putF "at_work" .non (st.fs vf pS vw) = ({ st with work := none } : Hm).fs vf pS .non := Hm.p6
      rw [ep1]
      have r1 := r0.put { st with work := none } (vw' := .non) rfl r0.far rfl
      have sb1 : SB [a, pS] H (L2.upd H a (.ins cH dx (({ st with work := none } : Hm).fs vf pS .non))) := sb_obj
      generalize L2.upd H a (.ins cH dx (({ st with work := none } : Hm).fs vf pS .non)) = H1 at r1 sb1 ⊢
      refine ⟨_, rfl, a, _, dx, _, rfl, r1.obj, S.cl, S.a7, RawH.len, ?_⟩
      have ep2 : putF "awaited_word" .non (({ st with work := none } : Hm).fs vf pS .non) = ({ st with work := none, aw := none } : Hm).fs vf pS .non := Hm.p7 (st := { st with work := none }) none
      rw [ep2]
      have r2 := r1.put { st with work := none, aw := none } (vw' := .non) rfl r1.far rfl
      have sb2 : SB [a, pS] H (L2.upd H1 a (.ins cH dx (({ st with work := none, aw := none } : Hm).fs vf pS .non))) := sb1.trans sb_obj
      generalize L2.upd H1 a (.ins cH dx (({ st with work := none, aw := none } : Hm).fs vf pS .non)) = H2 at r2 sb2 ⊢
      refine ⟨_, rfl, a, _, dx, _, rfl, r2.obj, S.cl, S.a8, RawH.len, ?_⟩
      have ep3 : putF "awaited_nears" (.int 0) (({ st with work := none, aw := none } : Hm).fs vf pS .non) = ({ st with work := none, aw := none, an := noneS } : Hm).fs vf pS .non := by
        rw [← noneS_num]
        exact Hm.p8 (st := { st with work := none, aw := none }) noneS
      rw [ep3]
      have r3 := r2.put { st with work := none, aw := none, an := noneS } (vw' := .non) rfl r2.far rfl
      have sb3 : SB [a, pS] H (L2.upd H2 a (.ins cH dx (({ st with work := none, aw := none, an := noneS } : Hm).fs vf pS .non))) := sb2.trans sb_obj
      generalize L2.upd H2 a (.ins cH dx (({ st with work := none, aw := none, an := noneS } : Hm).fs vf pS .non)) = H3 at r3 sb3 ⊢
      have ok3 : HmOk { st with work := none, aw := none, an := noneS } := ⟨ok0.n64, ok0.wr, ok0.row, fun _ h => (by cases h)⟩
      exact ⟨Nat.zero_le _, fun p H4 n4 => k p [] H4 (sb3.trans (SB.of n4.2.1)) (free_of r3 sb3 n4.1) ((r3.keep n4.2.1).at ok3) n4.2.2 .nil⟩
    have hword : l.word ≠ "took" := fun y => z (by rw [y])
    refine ⟨_, rfl, a, _, dx, _, [], _, rfl, r0.obj, (by kernel_rfl), ⟨rfl, rfl, rfl⟩, _, rfl, a, pS, q, st, l, rfl, hH, hq, hin, fun H1 sb1 hH1 => ?_⟩
    obtain ⟨sr, sw, sa, sl, sn⟩ := strikeM_same st l
    have e1 := hH.kt sb1 _ _ e
    -- the readers
    obtain ⟨lr, lw, ll, ln, la⟩ := lowM_same st l
    have s2wk : (lowM st l).work = some wl := lw.trans hw
    have s2ok : HmOk (lowM st l) := by
      unfold lowM
      split <;> exact ⟨hH1.ok.n64, hH1.ok.wr, hH1.ok.row, hH1.ok.wk⟩
    have eh : hearM st l = if inS (heardM st l).an = [] then grantM (heardM st l) wl else (heardM st l, []) := by
      unfold hearM
      rw [if_neg hword, show (heardM st l).work = some wl from s2wk]
    have ehd : heardM st l = { lowM st l with an := setS (lowM st l).an m false } := by
      unfold heardM
      rw [emn]
    rw [ehd] at eh
    have hs2 : lowM st l = if l.word = "lowered" then { strikeM st l with rd := setS (strikeM st l).rd m true } else strikeM st l := by
      unfold lowM
      rw [emn]
    have s2row : (lowM st l).row = st.row := lr
    generalize lowM st l = s2 at *
    dsimp only
    refine cut (fun σ H5 => σ = [some (.ref a), some (.ref q)] ∧ SB [a, pS] H H5 ∧ HomeAt cH H5 a pS s2) ?tl fun tl => ?hd
    case hd =>
      refine ⟨_, rfl, .inr (.inl ⟨q, _, _, _, rfl, rfl, SqT.of e1, rfl, .inl ⟨rfl, _, rfl, iteD (fun z2 => ?_) (fun z2 => ?_)⟩⟩)⟩
      · have hword2 : l.word = "lowered" := V.str.inj z2
        rw [if_pos hword2] at hs2
        replace hs2 := hs2.symm
        obtain ⟨dx1, vf1, vw1, qs1, r1⟩ := hH1.raw
        refine ⟨_, rfl, a, _, dx1, _, _, rfl, r1.obj, S.cl, S.a4, Hm.g4, _, rfl, .inr (.inl ⟨q, _, _, _, rfl, rfl, SqT.of e1, rfl, _, (strikeM st l).rd, m, by rw [hm]; rfl, rfl, hm64, _, rfl, a, _, dx1, _, rfl, r1.obj, S.cl, S.a4, RawH.len, ?_⟩)⟩
        rw [Hm.p4, hs2]
        have r2 := r1.put s2 (vf' := vf1) (vw' := vw1) (s2row.trans sr.symm) (by rw [← hs2]; exact r1.far) (by rw [← hs2]; exact r1.wk)
        exact tl _ _ ⟨rfl, sb1.trans sb_obj, r2.at s2ok⟩
      · have hword2 : l.word ≠ "lowered" := fun y => z2 (by rw [y])
        rw [if_neg hword2] at hs2
        exact tl _ _ ⟨rfl, sb1, hs2 ▸ hH1⟩
    rintro σ H5 ⟨rfl, sb5, hH5⟩
    obtain ⟨dx5, vf5, vw5, qs5, r5⟩ := hH5.raw
    have e5 := hH.kt sb5 _ _ e
    refine ⟨_, rfl, a, _, dx5, _, _, rfl, r5.obj, S.cl, S.a8, Hm.g8, _, rfl, .inr (.inl ⟨q, _, _, _, rfl, rfl, SqT.of e5, rfl, _, s2.an, m, by rw [hm]; rfl, rfl, hm64, _, rfl, a, _, dx5, _, rfl, r5.obj, S.cl, S.a8, RawH.len, ?_⟩)⟩
    rw [Hm.p8]
    have r6 := r5.put { s2 with an := setS s2.an m false } rfl r5.far r5.wk
    have sb6 : SB [a, pS] H (L2.upd H5 a (.ins cH dx5 (({ s2 with an := setS s2.an m false } : Hm).fs vf5 pS vw5))) := sb5.trans sb_obj
    generalize L2.upd H5 a (.ins cH dx5 (({ s2 with an := setS s2.an m false } : Hm).fs vf5 pS vw5)) = H6 at r6 sb6 ⊢
    have ok6 : HmOk { s2 with an := setS s2.an m false } := ⟨s2ok.n64, s2ok.wr, s2ok.row, s2ok.wk⟩
    refine ⟨_, rfl, a, _, dx5, _, _, rfl, r6.obj, S.cl, S.a8, Hm.g8, .inl ⟨rfl, _, rfl, iteEq (fun z3 => ?_) (fun z3 => ?_)⟩⟩
    · rw [eh, if_pos (zeroS_in.mp z3)] at k
      exact ⟨_, rfl, a, _, dx5, _, [], _, rfl, r6.obj, (by kernel_rfl), ⟨rfl, rfl, rfl⟩, a, pS, _, wl, rfl, r6.at ok6, s2wk, k.back r6 sb6⟩
    · rw [eh, if_neg (fun y => z3 (zeroS_in.mpr y))] at k
      exact ⟨Nat.zero_le _, fun p H7 n7 => k p [] H7 (sb6.trans (SB.of n7.2.1)) (free_of r6 sb6 n7.1) ((r6.keep n7.2.1).at ok6) n7.2.2 .nil⟩
theorem awaits_in {st : Hm} {l : Ltr} (ok : HmOk st) (h : awaitsB st l = true) : LtIn l := by
  unfold awaitsB at h
  split at h
  · cases h
  · rename_i z
    have z2 : 0 ≤ l.near ∧ l.near < ((st.n : Nat) : Int) := Classical.byContradiction fun y => z (.inr y)
    have := ok.n64
    exact ⟨z2.1, by omega⟩
def spCome (cH cU : Addr) : Sp := fun vs H Q E => ∃ (a pS q : Addr) (st : Hm) (l : Ltr), vs = [.ref a, .ref q] ∧ HomeAt cH H a pS st ∧ st.row.length ≤ 500 ∧ LtAt H q l ∧
  (awaitsB st l = true → (asks l.word = true ∨ ∃ wl, st.work = some wl) ∧ Sent cH H a pS (comeM st l) Q) ∧ (awaitsB st l = false → ∀ H', Same H H' → E (.ref cU) none H')
theorem sc_come : FnScope ["self", "letter"] ["self", "letter"] (defScope sHome_come) := ⟨rfl, rfl, rfl, by decide +kernel, rfl, by decide +kernel, by decide +kernel⟩
theorem ok_come {f : Addr} {fd : FuncData} (F : FunD K "come" "Home.come" sHome_come f fd .none) (Z : Bl mg) (T : TxH K mg aA cU) (S : HCl K cH) (M_awaits : MS P w K mg base 2 (RR cH (spAwaits cH)) "awaits") (M_work_on : MS P w K mg base 7 (RR cH (spWorkOn cH)) "work_on") (M_hear : MS P w K mg base 5 (RR cH (spHear cH)) "hear") : FnOk P w K mg base (CXE P w) 8 f fd ["self", "letter"] (spCome cH cU) := by
  refine F.okE sc_come (fun vs H Q E h => ?_) (fun cdv A outer s H vs Q E hr h => ?_)
  · obtain ⟨a, pS, q, st, l, rfl, _⟩ := h
    rfl
  · obtain ⟨a, pS, q, st, l, rfl, hH, hlen, hq, k1, k2⟩ := h
    obtain ⟨dx, vf, vw, qs, r0⟩ := hH.raw
    apply body_of
    (conv => arg 2; whnf)
    with_reducible
      apply q_then
      apply q_if
      apply q_tnot
      apply q_tv
      apply q_meth
      apply q_var (i := 0)
      with_unfolding_all first | exact ⟨rfl, Or.inl rfl, by decide, by decide⟩ | exact ⟨rfl, Or.inr (Or.inl rfl), by decide, by decide⟩ | exact ⟨rfl, Or.inr (Or.inr rfl), by decide, by decide⟩
      apply q_cons
      apply q_var (i := 1)
      with_unfolding_all first | exact ⟨rfl, Or.inl rfl, by decide, by decide⟩ | exact ⟨rfl, Or.inr (Or.inl rfl), by decide, by decide⟩ | exact ⟨rfl, Or.inr (Or.inr rfl), by decide, by decide⟩
      apply q_nil
      with_unfolding_all exact rfl
      with_unfolding_all exact ⟨M_awaits, hr.mono (by decide), passes_cx, rfl, rfl⟩
      with_unfolding_all exact fun _ => rfl
      apply q_last
      apply q_raise
      apply q_cons
      apply q_str
      apply q_nil
      with_unfolding_all exact rfl
      with_unfolding_all exact ⟨rfl, thrown_cx, rfl, T.Unawaited, T.x_Unawaited, rfl, by decide⟩
      apply q_end
      apply q_then
      apply q_if
      apply q_tcmp
      apply q_ix
      apply q_var (i := 1)
      with_unfolding_all first | exact ⟨rfl, Or.inl rfl, by decide, by decide⟩ | exact ⟨rfl, Or.inr (Or.inl rfl), by decide, by decide⟩ | exact ⟨rfl, Or.inr (Or.inr rfl), by decide, by decide⟩
      apply q_int
      with_unfolding_all exact ⟨kix (K := K) rfl, fun _ _ => rfl⟩
      apply q_gref
      with_unfolding_all exact ⟨T.ASKING, rfl, by decide⟩
      with_unfolding_all exact ⟨kinB (K := K) rfl hr.units, rfl⟩
      apply q_then
      apply q_expr
      apply q_bm (K := K)
      apply q_fld (K := K)
      apply q_var (i := 0)
      with_unfolding_all first | exact ⟨rfl, Or.inl rfl, by decide, by decide⟩ | exact ⟨rfl, Or.inr (Or.inl rfl), by decide, by decide⟩ | exact ⟨rfl, Or.inr (Or.inr rfl), by decide, by decide⟩
      with_unfolding_all exact ⟨rfl, rfl⟩
      apply q_cons
      apply q_var (i := 1)
      with_unfolding_all first | exact ⟨rfl, Or.inl rfl, by decide, by decide⟩ | exact ⟨rfl, Or.inr (Or.inl rfl), by decide, by decide⟩ | exact ⟨rfl, Or.inr (Or.inr rfl), by decide, by decide⟩
      apply q_nil
      with_unfolding_all exact rfl
      with_unfolding_all exact ⟨rfl, mt_append, PySem.F.plainAttrs_list, PySem.F.slot_list_append, PySem.F.type_list_append, rfl, rfl, rfl, rfl⟩
      with_unfolding_all exact rfl
      apply q_last
      apply q_ret
      apply q_meth0
      apply q_var (i := 0)
      with_unfolding_all first | exact ⟨rfl, Or.inl rfl, by decide, by decide⟩ | exact ⟨rfl, Or.inr (Or.inl rfl), by decide, by decide⟩ | exact ⟨rfl, Or.inr (Or.inr rfl), by decide, by decide⟩
      with_unfolding_all exact ⟨M_work_on, hr.mono (by decide), passes_cx, rfl⟩
      apply q_end
      apply q_last
      apply q_ret
      apply q_op
      apply q_meth
      apply q_var (i := 0)
      with_unfolding_all first | exact ⟨rfl, Or.inl rfl, by decide, by decide⟩ | exact ⟨rfl, Or.inr (Or.inl rfl), by decide, by decide⟩ | exact ⟨rfl, Or.inr (Or.inr rfl), by decide, by decide⟩
      apply q_cons
      apply q_var (i := 1)
      with_unfolding_all first | exact ⟨rfl, Or.inl rfl, by decide, by decide⟩ | exact ⟨rfl, Or.inr (Or.inl rfl), by decide, by decide⟩ | exact ⟨rfl, Or.inr (Or.inr rfl), by decide, by decide⟩
      apply q_nil
      with_unfolding_all exact rfl
      with_unfolding_all exact ⟨M_hear, hr.mono (by decide), passes_cx, rfl, rfl⟩
      apply q_meth0
      apply q_var (i := 0)
      with_unfolding_all first | exact ⟨rfl, Or.inl rfl, by decide, by decide⟩ | exact ⟨rfl, Or.inr (Or.inl rfl), by decide, by decide⟩ | exact ⟨rfl, Or.inr (Or.inr rfl), by decide, by decide⟩
      with_unfolding_all exact ⟨M_work_on, hr.mono (by decide), passes_cx, rfl⟩
      with_unfolding_all exact kaddB (K := K) rfl
    obtain ⟨v, e, hv⟩ := id hq
    refine ⟨_, rfl, a, _, dx, _, [], _, rfl, r0.obj, (by kernel_rfl), ⟨rfl, rfl, rfl⟩, _, rfl, a, pS, q, st, l, rfl, hH, by omega, hq, fun H1 s1 => ⟨_, rfl, ?_⟩⟩
    cases hb : awaitsB st l with
    | false => exact iteT ⟨by show 1 ≤ sizeLine; decide, k2 hb H1 s1⟩
    | true =>
      refine iteF ?_
      obtain ⟨kw, kk⟩ := k1 hb
      have hin := awaits_in hH.ok hb
      have e1 := s1 _ _ e
      have r1 := r0.keep s1
      have hq1 := hq.kt s1.kt
      have hz := big
      refine ⟨_, rfl, .inr (.inl ⟨q, _, _, _, rfl, rfl, SqT.of e1, rfl, .inl (.inl ⟨aA, askVs, rfl, .inr (T.sqA H1), rfl, rfl, asks l.word, rfl, iteB (fun h1 => ?_) (fun h1 => ?_)⟩)⟩)⟩
      · have ec : comeM st l = workL (st.row ++ [l]) { st with row := st.row ++ [l] } := by
          unfold comeM
          rw [if_pos h1]
          exact workL_row.symm
        rw [ec] at kk
        refine ⟨_, rfl, a, _, dx, _, _, rfl, r1.obj, S.cl, S.a5, Hm.g5, .inl ⟨rfl, _, SqL.of r1.lst⟩, _, rfl, pS, _, .ref q, rfl, rfl, r1.lst, by rw [List.length_map, r1.row.length]; omega, ?_⟩
        have em : qs.map V.ref ++ [V.ref q] = (qs ++ [q]).map V.ref := by rw [List.map_append]; rfl
        rw [em]
        have r2 := r1.putL (Lets.app (.cons hq1 .nil) r1.row)
        have sb2 : SB [a, pS] H (L2.upd H1 pS (.lst ((qs ++ [q]).map V.ref))) := (SB.of s1).trans sb_lst
        generalize L2.upd H1 pS (.lst ((qs ++ [q]).map V.ref)) = H2 at r2 sb2 ⊢
        have ok2 : HmOk { st with row := st.row ++ [l] } := ⟨hH.ok.n64, hH.ok.wr, fun l' h => (List.mem_append.mp h).elim (hH.ok.row l') (fun h => (by obtain rfl := List.mem_singleton.mp h; exact hin)), hH.ok.wk⟩
        exact ⟨_, rfl, a, _, dx, _, [], _, rfl, r2.obj, (by kernel_rfl), ⟨rfl, rfl, rfl⟩, a, pS, _, rfl, r2.at ok2, by rw [List.length_append]; show _ + 1 ≤ 1000; omega, kk.back r2 sb2⟩
      · obtain ⟨wl, hw⟩ : ∃ wl, st.work = some wl := kw.elim (fun y => absurd (h1.symm.trans y) (by decide)) id
        have ec : comeM st l = ((workL (hearM st l).1.row (hearM st l).1).1, (hearM st l).2 ++ (workL (hearM st l).1.row (hearM st l).1).2) := by
          unfold comeM
          rw [if_neg (by rw [h1]; decide)]
        rw [ec] at kk
        refine ⟨_, rfl, a, _, dx, _, [], _, rfl, r1.obj, (by kernel_rfl), ⟨rfl, rfl, rfl⟩, _, rfl, a, pS, q, st, l, wl, rfl, r1.at hH.ok, hq1, hin, hw, fun p2 ps2 H2 sb2 hp2 h2 e2 l2 => ?_⟩
        obtain ⟨dx2, vf2, vw2, qs2, r2⟩ := h2.raw
        have hrow := hearM_row st l
        have sb12 : SB [a, pS] H H2 := (SB.of s1).trans sb2
        have pn : p2 ∉ [a, pS] := fun z => by
          rcases List.mem_cons.mp z with rfl | z
          · rw [r1.obj] at hp2
            cases hp2
          · obtain rfl := List.mem_singleton.mp z
            rw [r1.lst] at hp2
            cases hp2
        refine ⟨_, rfl, a, _, dx2, _, [], _, rfl, r2.obj, (by kernel_rfl), ⟨rfl, rfl, rfl⟩, a, pS, _, rfl, h2, by rw [hrow]; omega, fun p3 ps3 H3 sb3 hp3 h3 e3 l3 => ?_⟩
        have hl1 := hearM_len st l
        have hl2 := workL_len (hearM st l).1.row (hearM st l).1
        rw [hrow] at hl2
        refine .inr (.inr (.inl ⟨p2, p3, _, _, rfl, rfl, sb3 _ _ e2 pn, e3, ?_, fun p4 H4 n4 => ?_⟩))
        · rw [List.length_map, List.length_map, l2.length, l3.length, hrow]
          omega
        · obtain ⟨dx3, vf3, vw3, qs3, r3⟩ := h3.raw
          exact kk p4 (ps2 ++ ps3) H4 (sb12.trans (sb3.trans (SB.of n4.2.1))) (free_of r3 (sb12.trans sb3) n4.1) (h3.keep n4.2.1) (by rw [n4.2.2, List.map_append]) (Lets.app (l3.kt n4.2.1.kt) (l2.kt ((h2.kt sb3).trans n4.2.1.kt)))
inductive Pairs (H : Hp) (x : Str) : List Addr → List Nat → Prop
  | nil : Pairs H x [] []
  | cons {t : Addr} {k : Nat} {ts : List Addr} {ks : List Nat} : H t = some (.tup [.str x, .int ((k : Nat) : Int)]) → Pairs H x ts ks → Pairs H x (t :: ts) (k :: ks)
def spWork (cH : Addr) : Sp := fun vs H Q _ => ∃ (a pS : Addr) (st : Hm), vs = [.ref a] ∧ HomeAt cH H a pS st ∧ ((st.work = none ∧ Q .non H) ∨ ∃ wl x, st.work = some wl ∧ st.aw = some x ∧ ∀ p q D ts H', Same H H' → H p = none → H D = none → H' p = some (.tup [.ref q, .ref D]) → LtAt H' q wl → H' D = some (.lst (ts.map V.ref)) → Pairs H' x ts (inS st.an) → Q (.ref p) H')
theorem Pairs.kt {H H' : Hp} {x : Str} (k : KTup H H') : ∀ {ts : List Addr} {ks : List Nat}, Pairs H x ts ks → Pairs H' x ts ks
  | _, _, .nil => .nil
  | _, _, .cons a b => .cons (k _ _ a) (b.kt k)
theorem Pairs.length {H : Hp} {x : Str} : ∀ {ts : List Addr} {ks : List Nat}, Pairs H x ts ks → ts.length = ks.length
  | _, _, .nil => rfl
  | _, _, .cons _ b => by rw [List.length_cons, List.length_cons, b.length]
theorem Pairs.app {H : Hp} {x : Str} {us : List Addr} {js : List Nat} (h2 : Pairs H x us js) : ∀ {ts : List Addr} {ks : List Nat}, Pairs H x ts ks → Pairs H x (ts ++ us) (ks ++ js)
  | _, _, .nil => h2
  | _, _, .cons a b => .cons a (h2.app b)
theorem Pairs.reps {K : PySem.W.Frag} {H : Hp} {x : Str} : ∀ {ts : List Addr} {ks : List Nat}, Pairs H x ts ks → Reps K H (ts.map V.ref) (ks.map fun k => .tuple [.str x, .int ((k : Nat) : Int)])
  | _, _, .nil => .nil
  | _, _, .cons a b => .cons (.tup (SqT.of a) (.cons (.str _) (.cons (.int _) .nil))) b.reps
theorem sc_work : FnScope ["self"] ["self"] (defScope sHome_work) := ⟨rfl, rfl, rfl, by decide +kernel, rfl, by decide +kernel, by decide +kernel⟩
theorem ok_workH {f : Addr} {fd : FuncData} (F : FunD K "work" "Home.work" sHome_work f fd .none) (S : HCl K cH) (C_nears_in : CalD P w K mg base (CXE P w) 1 "nears_in" ["bits"] [] spNears) : FnOk P w K mg base (CXE P w) 2 f fd ["self"] (spWork cH) := by
  refine F.ok0 sc_work (fun vs H Q E h => ?_) (fun cdv A outer s H vs Q E hr h => ?_)
  · obtain ⟨a, pS, st, rfl, _⟩ := h
    rfl
  · obtain ⟨a, pS, st, rfl, hH, k⟩ := h
    obtain ⟨dx, vf, vw, qs, r0⟩ := hH.raw
    apply body_of
    (conv => arg 2; whnf)
    with_reducible
      apply q_then
      apply q_if
      apply q_tcmp
      apply q_fld (K := K)
      apply q_var (i := 0)
      with_unfolding_all first | exact ⟨rfl, Or.inl rfl, by decide, by decide⟩ | exact ⟨rfl, Or.inr (Or.inl rfl), by decide, by decide⟩ | exact ⟨rfl, Or.inr (Or.inr rfl), by decide, by decide⟩
      with_unfolding_all exact ⟨rfl, rfl⟩
      apply q_non
      with_unfolding_all exact ⟨op_isN, nomark _⟩
      apply q_last
      apply q_ret
      apply q_non
      apply q_end
      apply q_last
      apply q_ret
      apply q_tupA
      apply q_cons
      apply q_fld (K := K)
      apply q_var (i := 0)
      with_unfolding_all first | exact ⟨rfl, Or.inl rfl, by decide, by decide⟩ | exact ⟨rfl, Or.inr (Or.inl rfl), by decide, by decide⟩ | exact ⟨rfl, Or.inr (Or.inr rfl), by decide, by decide⟩
      with_unfolding_all exact ⟨rfl, rfl⟩
      apply q_cons
      apply q_comp (N' := ["self", "near"]) (ix := [some 0, none]) (i0 := 1)
      apply q_iseq (K := K)
      apply q_call
      apply q_cons
      apply q_fld (K := K)
      apply q_var (i := 0)
      with_unfolding_all first | exact ⟨rfl, Or.inl rfl, by decide, by decide⟩ | exact ⟨rfl, Or.inr (Or.inl rfl), by decide, by decide⟩ | exact ⟨rfl, Or.inr (Or.inr rfl), by decide, by decide⟩
      with_unfolding_all exact ⟨rfl, rfl⟩
      apply q_nil
      with_unfolding_all exact rfl
      with_unfolding_all exact ⟨C_nears_in, hr.mono (by decide), rfl, passes_none, rfl, by decide⟩
      with_unfolding_all exact rfl
      intro cl C s2 H2 fp
      apply q_ifnil
      intro cl C s2 H2 fp
      apply q_tupA
      apply q_cons
      apply q_fld (K := K)
      apply q_var (i := 0)
      with_unfolding_all first | exact ⟨rfl, Or.inl rfl, by decide, by decide⟩ | exact ⟨rfl, Or.inr (Or.inl rfl), by decide, by decide⟩ | exact ⟨rfl, Or.inr (Or.inr rfl), by decide, by decide⟩
      with_unfolding_all exact ⟨rfl, rfl⟩
      apply q_cons
      apply q_var (i := 1)
      with_unfolding_all first | exact ⟨rfl, Or.inl rfl, by decide, by decide⟩ | exact ⟨rfl, Or.inr (Or.inl rfl), by decide, by decide⟩ | exact ⟨rfl, Or.inr (Or.inr rfl), by decide, by decide⟩
      apply q_nil
      with_unfolding_all exact rfl
      with_unfolding_all exact rfl
      with_unfolding_all exact ⟨by kernel_rfl, rfl, rfl, rfl, rfl, fun _ => rfl⟩
      apply q_nil
      with_unfolding_all exact rfl
      with_unfolding_all exact rfl
    have wk := r0.wk
    rcases k with ⟨hw, k⟩ | ⟨wl, x, hw, hx, k⟩
    · rw [hw] at wk
      obtain rfl : vw = .non := wk
      exact ⟨_, rfl, a, _, dx, _, _, rfl, r0.obj, S.cl, S.a6, Hm.g6, rfl, true, rfl, iteT k⟩
    rw [hw] at wk
    obtain ⟨qw, rfl, hqw⟩ := wk
    refine ⟨_, rfl, a, _, dx, _, _, rfl, r0.obj, S.cl, S.a6, Hm.g6, rfl, false, rfl, iteF ?_⟩
    have g7 : (st.fs vf pS (.ref qw)).lookup ("awaited_word" : Str) = some (.str x) := Hm.g7.trans (congrArg some (show oS st.aw = .str x by rw [hx]; rfl))
    have l64 := inS_len st.an
    refine ⟨_, rfl, a, _, dx, _, _, rfl, r0.obj, S.cl, S.a6, Hm.g6, .inl ⟨_, rfl, a, _, dx, _, _, rfl, r0.obj, S.cl, S.a8, Hm.g8, st.an, rfl, fun q2 H3 s3 hq2 e3 => ⟨q2, rfl, ⟨_, SqL.of e3⟩, fun D hD => comp_lstR (K := K) (fun i ys H' => ∃ ts : List Addr, ys = ts.map V.ref ∧ Pairs H' x ts ((inS st.an).take i)) hD (SqL.of e3) (by unfold natV; rw [List.length_map]; omega) (fun H' _ => ⟨[], rfl, .nil⟩) (fun i ys H' ⟨ts, e, hl⟩ => ?_) (fun i ys H' zs us ⟨ts, e, hl⟩ hz => ⟨ts, e, hl.kt (kt_updL hz)⟩) (fun i y H' ys Qy Qn ex sm hR hy hn => ?_) fun H5 ys s5 hR e5 => ?_⟩⟩⟩
    · rw [e, List.length_map, hl.length, List.length_take]
      omega
    · obtain ⟨ts, rfl, hl⟩ := hR
      obtain ⟨j, hj, rfl⟩ : ∃ j, (inS st.an)[i]? = some j ∧ y = .int ((j : Nat) : Int) := by
        unfold natV at ex
        rw [List.getElem?_map] at ex
        cases h : (inS st.an)[i]? with
        | none => rw [h] at ex; cases ex
        | some j => rw [h] at ex; exact ⟨j, rfl, (Option.some.inj ex).symm⟩
      have r4 := (r0.keep s3).keep sm
      refine iteT (B := Qn H') ⟨_, rfl, a, _, dx, _, _, rfl, r4.obj, S.cl, S.a7, g7, _, rfl, by show 2 ≤ sizeLine; decide, fun t4 H4 n4 => hy H4 _ n4.2.1 ⟨ts ++ [t4], by rw [List.map_append]; rfl, ?_⟩⟩
      rw [List.take_add_one, hj]
      exact Pairs.app (.cons n4.2.2 .nil) (hl.kt n4.2.1.kt)
    · obtain ⟨ts, rfl, hl⟩ := hR
      have el : (natV (inS st.an)).length = (inS st.an).length := List.length_map ..
      rw [el, List.take_length] at hl
      have s35 := s3.trans s5
      exact ⟨by show 2 ≤ sizeLine; decide, fun p6 H6 n6 => k p6 qw D ts H6 (s35.trans n6.2.1) (s35.free n6.1) (s3.free hD) n6.2.2 (hqw.kt (s35.trans n6.2.1).kt) (n6.2.1 _ _ e5) (hl.kt n6.2.1.kt)⟩
def spHInit (cH : Addr) : Sp := fun vs H Q _ => ∃ (x dx : Addr) (ln : Int) (n : Nat) (v : V) (wd : Wo), vs = [.ref x, .int ln, .int ((n : Nat) : Int), v] ∧ n ≤ 64 ∧ H x = some (.ins cH dx []) ∧ WoAt H v wd ∧ ∀ pS H', SB [x] H H' → H pS = none → HomeAt cH H' x pS ⟨ln, n, wd, none, noneS, [], none, none, noneS⟩ → Q .non H'
theorem sc_hinit : FnScope ["self", "line", "nears", "words"] ["self", "line", "nears", "words"] (defScope sHome_init) := ⟨rfl, rfl, rfl, by decide +kernel, rfl, by decide +kernel, by decide +kernel⟩
theorem ok_hinit {f : Addr} {fd : FuncData} (F : FunD K "__init__" "Home.__init__" sHome_init f fd .none) (S : HCl K cH) : FnOk P w K mg base (CXE P w) 1 f fd ["self", "line", "nears", "words"] (spHInit cH) := by
  refine F.ok0 sc_hinit (fun vs H Q E h => ?_) (fun cdv A outer s H vs Q E hr h => ?_)
  · obtain ⟨x, dx, ln, n, v, wd, rfl, _⟩ := h
    rfl
  · obtain ⟨x, dx, ln, n, v, wd, rfl, hn, hx, hv, k⟩ := h
    apply body_of
    (conv => arg 2; whnf)
    with_reducible
      apply q_then
      apply q_sfld (K := K)
      apply q_var (i := 1)
      with_unfolding_all first | exact ⟨rfl, Or.inl rfl, by decide, by decide⟩ | exact ⟨rfl, Or.inr (Or.inl rfl), by decide, by decide⟩ | exact ⟨rfl, Or.inr (Or.inr rfl), by decide, by decide⟩
      apply q_var (i := 0)
      with_unfolding_all first | exact ⟨rfl, Or.inl rfl, by decide, by decide⟩ | exact ⟨rfl, Or.inr (Or.inl rfl), by decide, by decide⟩ | exact ⟨rfl, Or.inr (Or.inr rfl), by decide, by decide⟩
      with_unfolding_all exact ⟨rfl, rfl⟩
      apply q_then
      apply q_sfld (K := K)
      apply q_var (i := 2)
      with_unfolding_all first | exact ⟨rfl, Or.inl rfl, by decide, by decide⟩ | exact ⟨rfl, Or.inr (Or.inl rfl), by decide, by decide⟩ | exact ⟨rfl, Or.inr (Or.inr rfl), by decide, by decide⟩
      apply q_var (i := 0)
      with_unfolding_all first | exact ⟨rfl, Or.inl rfl, by decide, by decide⟩ | exact ⟨rfl, Or.inr (Or.inl rfl), by decide, by decide⟩ | exact ⟨rfl, Or.inr (Or.inr rfl), by decide, by decide⟩
      with_unfolding_all exact ⟨rfl, rfl⟩
      apply q_then
      apply q_sfld (K := K)
      apply q_var (i := 3)
      with_unfolding_all first | exact ⟨rfl, Or.inl rfl, by decide, by decide⟩ | exact ⟨rfl, Or.inr (Or.inl rfl), by decide, by decide⟩ | exact ⟨rfl, Or.inr (Or.inr rfl), by decide, by decide⟩
      apply q_var (i := 0)
      with_unfolding_all first | exact ⟨rfl, Or.inl rfl, by decide, by decide⟩ | exact ⟨rfl, Or.inr (Or.inl rfl), by decide, by decide⟩ | exact ⟨rfl, Or.inr (Or.inr rfl), by decide, by decide⟩
      with_unfolding_all exact ⟨rfl, rfl⟩
      apply q_then
      apply q_sfld (K := K)
      apply q_non
      apply q_var (i := 0)
      with_unfolding_all first | exact ⟨rfl, Or.inl rfl, by decide, by decide⟩ | exact ⟨rfl, Or.inr (Or.inl rfl), by decide, by decide⟩ | exact ⟨rfl, Or.inr (Or.inr rfl), by decide, by decide⟩
      with_unfolding_all exact ⟨rfl, rfl⟩
      apply q_then
      apply q_sfld (K := K)
      apply q_int
      apply q_var (i := 0)
      with_unfolding_all first | exact ⟨rfl, Or.inl rfl, by decide, by decide⟩ | exact ⟨rfl, Or.inr (Or.inl rfl), by decide, by decide⟩ | exact ⟨rfl, Or.inr (Or.inr rfl), by decide, by decide⟩
      with_unfolding_all exact ⟨rfl, rfl⟩
      apply q_then
      apply q_sfld (K := K)
      apply q_lstA
      apply q_nil
      apply q_var (i := 0)
      with_unfolding_all first | exact ⟨rfl, Or.inl rfl, by decide, by decide⟩ | exact ⟨rfl, Or.inr (Or.inl rfl), by decide, by decide⟩ | exact ⟨rfl, Or.inr (Or.inr rfl), by decide, by decide⟩
      with_unfolding_all exact ⟨rfl, rfl⟩
      apply q_then
      apply q_sfld (K := K)
      apply q_non
      apply q_var (i := 0)
      with_unfolding_all first | exact ⟨rfl, Or.inl rfl, by decide, by decide⟩ | exact ⟨rfl, Or.inr (Or.inl rfl), by decide, by decide⟩ | exact ⟨rfl, Or.inr (Or.inr rfl), by decide, by decide⟩
      with_unfolding_all exact ⟨rfl, rfl⟩
      apply q_then
      apply q_sfld (K := K)
      apply q_non
      apply q_var (i := 0)
      with_unfolding_all first | exact ⟨rfl, Or.inl rfl, by decide, by decide⟩ | exact ⟨rfl, Or.inr (Or.inl rfl), by decide, by decide⟩ | exact ⟨rfl, Or.inr (Or.inr rfl), by decide, by decide⟩
      with_unfolding_all exact ⟨rfl, rfl⟩
      apply q_last
      apply q_sfld (K := K)
      apply q_int
      apply q_var (i := 0)
      with_unfolding_all first | exact ⟨rfl, Or.inl rfl, by decide, by decide⟩ | exact ⟨rfl, Or.inr (Or.inl rfl), by decide, by decide⟩ | exact ⟨rfl, Or.inr (Or.inr rfl), by decide, by decide⟩
      with_unfolding_all exact ⟨rfl, rfl⟩
    refine ⟨_, rfl, _, rfl, x, _, dx, _, rfl, hx, S.cl, S.a0, by show 0 < 1000; decide, ?_⟩
    rw [show putF "line" (V.int ln) ([] : List (Str × V)) = [(("line" : Str), V.int ln)] by kernel_rfl]
    refine ⟨_, rfl, _, rfl, x, _, dx, _, rfl, upd_same, S.cl, S.a1, by show 1 < 1000; decide, ?_⟩
    rw [show putF "near_count" (V.int ((n : Nat) : Int)) ([(("line" : Str), V.int ln)]) = [(("line" : Str), V.int ln), (("near_count" : Str), V.int ((n : Nat) : Int))] by kernel_rfl, upd_upd]
    refine ⟨_, rfl, _, rfl, x, _, dx, _, rfl, upd_same, S.cl, S.a2, by show 2 < 1000; decide, ?_⟩
    rw [show putF "far_words" (v) ([(("line" : Str), V.int ln), (("near_count" : Str), V.int ((n : Nat) : Int))]) = [(("line" : Str), V.int ln), (("near_count" : Str), V.int ((n : Nat) : Int)), (("far_words" : Str), v)] by kernel_rfl, upd_upd]
    refine ⟨_, rfl, x, _, dx, _, rfl, upd_same, S.cl, S.a3, by show 3 < 1000; decide, ?_⟩
    rw [show putF "writer" (V.non) ([(("line" : Str), V.int ln), (("near_count" : Str), V.int ((n : Nat) : Int)), (("far_words" : Str), v)]) = [(("line" : Str), V.int ln), (("near_count" : Str), V.int ((n : Nat) : Int)), (("far_words" : Str), v), (("writer" : Str), V.non)] by kernel_rfl, upd_upd]
    refine ⟨_, rfl, x, _, dx, _, rfl, upd_same, S.cl, S.a4, by show 4 < 1000; decide, ?_⟩
    rw [show putF "readers" (V.int 0) ([(("line" : Str), V.int ln), (("near_count" : Str), V.int ((n : Nat) : Int)), (("far_words" : Str), v), (("writer" : Str), V.non)]) = [(("line" : Str), V.int ln), (("near_count" : Str), V.int ((n : Nat) : Int)), (("far_words" : Str), v), (("writer" : Str), V.non), (("readers" : Str), V.int 0)] by kernel_rfl, upd_upd]
    refine ⟨Nat.zero_le _, fun pS H6 n6 => ⟨_, rfl, x, _, dx, _, rfl, n6.2.1 _ _ upd_same, S.cl, S.a5, by show 5 < 1000; decide, ?_⟩⟩
    rw [show putF "standing" (V.ref pS) ([(("line" : Str), V.int ln), (("near_count" : Str), V.int ((n : Nat) : Int)), (("far_words" : Str), v), (("writer" : Str), V.non), (("readers" : Str), V.int 0)]) = [(("line" : Str), V.int ln), (("near_count" : Str), V.int ((n : Nat) : Int)), (("far_words" : Str), v), (("writer" : Str), V.non), (("readers" : Str), V.int 0), (("standing" : Str), V.ref pS)] by kernel_rfl]
    refine ⟨_, rfl, x, _, dx, _, rfl, upd_same, S.cl, S.a6, by show 6 < 1000; decide, ?_⟩
    rw [show putF "at_work" (V.non) ([(("line" : Str), V.int ln), (("near_count" : Str), V.int ((n : Nat) : Int)), (("far_words" : Str), v), (("writer" : Str), V.non), (("readers" : Str), V.int 0), (("standing" : Str), V.ref pS)]) = [(("line" : Str), V.int ln), (("near_count" : Str), V.int ((n : Nat) : Int)), (("far_words" : Str), v), (("writer" : Str), V.non), (("readers" : Str), V.int 0), (("standing" : Str), V.ref pS), (("at_work" : Str), V.non)] by kernel_rfl, upd_upd]
    refine ⟨_, rfl, x, _, dx, _, rfl, upd_same, S.cl, S.a7, by show 7 < 1000; decide, ?_⟩
    rw [show putF "awaited_word" (V.non) ([(("line" : Str), V.int ln), (("near_count" : Str), V.int ((n : Nat) : Int)), (("far_words" : Str), v), (("writer" : Str), V.non), (("readers" : Str), V.int 0), (("standing" : Str), V.ref pS), (("at_work" : Str), V.non)]) = [(("line" : Str), V.int ln), (("near_count" : Str), V.int ((n : Nat) : Int)), (("far_words" : Str), v), (("writer" : Str), V.non), (("readers" : Str), V.int 0), (("standing" : Str), V.ref pS), (("at_work" : Str), V.non), (("awaited_word" : Str), V.non)] by kernel_rfl, upd_upd]
    refine ⟨_, rfl, x, _, dx, _, rfl, upd_same, S.cl, S.a8, by show 8 < 1000; decide, ?_⟩
    rw [show putF "awaited_nears" (V.int 0) ([(("line" : Str), V.int ln), (("near_count" : Str), V.int ((n : Nat) : Int)), (("far_words" : Str), v), (("writer" : Str), V.non), (("readers" : Str), V.int 0), (("standing" : Str), V.ref pS), (("at_work" : Str), V.non), (("awaited_word" : Str), V.non)]) = [(("line" : Str), V.int ln), (("near_count" : Str), V.int ((n : Nat) : Int)), (("far_words" : Str), v), (("writer" : Str), V.non), (("readers" : Str), V.int 0), (("standing" : Str), V.ref pS), (("at_work" : Str), V.non), (("awaited_word" : Str), V.non), (("awaited_nears" : Str), V.int 0)] by kernel_rfl, upd_upd]
    have sb6 : SB [x] H H6 := ((SB.refl H).upd (by simp)).trans (SB.of n6.2.1)
    have hp0 : H pS = none := by
      by_cases z : pS = x
      · subst z
        have := n6.1
        rw [upd_same] at this
        cases this
      · have := n6.1
        rwa [upd_ne z] at this
    have px : pS ≠ x := fun z => by
      rw [z, hx] at hp0
      cases hp0
    refine k pS _ (sb6.trans ((SB.refl H6).upd (by simp))) hp0 ⟨⟨dx, v, .non, [], ?_, ?_, rfl, ?_, .nil⟩, ⟨hn, fun _ h => (by cases h), fun _ h => (by cases h), fun _ h => (by cases h)⟩⟩
    · rw [upd_same]
      show _ = some (HO.ins cH dx (Hm.fs ⟨ln, n, wd, none, noneS, [], none, none, noneS⟩ v pS .non))
      unfold Hm.fs
      rw [noneS_num]
      rfl
    · refine hv.kt fun b xs e => ?_
      have nb : b ≠ x := fun z => by
        rw [z, hx] at e
        cases e
      rw [upd_ne nb]
      exact n6.2.1 _ _ (by rw [upd_ne nb]; exact e)
    · rw [upd_ne px]
      exact n6.2.2
end
end K36

set_option Elab.async false
set_option linter.all false
set_option maxRecDepth 100000
set_option maxHeartbeats 1000000
namespace K36
open PySem L2
/-! ### what a home does, reckoned -/
theorem asks_yes {x : Str} (h : x = "read" ∨ x = "write" ∨ x = "back") : asks x = true := by rcases h with rfl | rfl | rfl <;> decide +kernel
theorem asks_no {x : Str} (h : x = "lowered" ∨ x = "yielded" ∨ x = "took") : asks x = false := by rcases h with rfl | rfl | rfl <;> decide +kernel
theorem awaits_busy {st : Hm} {l : Ltr} (h : asks l.word = true) (ha : hasAsked st l.near = false) (hl : l.line = st.line) (h0 : 0 ≤ l.near) (h1 : l.near < ((st.n : Nat) : Int)) : awaitsB st l = true := by
  unfold awaitsB
  rw [if_neg (fun z => z.elim (fun z => z hl) fun z => z ⟨h0, h1⟩), if_pos h, ha]
  rfl
theorem awaits_ans {st : Hm} {l : Ltr} (h : asks l.word = false) (ha : st.aw = some l.word) (hn : st.an l.near.toNat = true) (hl : l.line = st.line) (h0 : 0 ≤ l.near) (h1 : l.near < ((st.n : Nat) : Int)) : awaitsB st l = true := by
  unfold awaitsB
  rw [if_neg (fun z => z.elim (fun z => z hl) fun z => z ⟨h0, h1⟩), if_neg (by rw [h]; decide), ha, hn]
  simp
theorem inS_mem {s : NSet} {j : Nat} : j ∈ inS s ↔ j < 64 ∧ s j = true := by
  unfold inS
  rw [List.mem_filter, List.mem_range]
theorem beginM_read {st : Hm} {l : Ltr} (h : l.word = "read") : beginM st l = callM { st with work := some l } l "lower" "lowered" (writerS st.writer) := by
  unfold beginM
  rw [if_neg (by rw [h]; decide +kernel), if_pos h]
theorem beginM_write {st : Hm} {l : Ltr} (h : l.word = "write") : beginM st l = callM { st with work := some l } l "yield" "yielded" (setS (orS (writerS st.writer) st.rd) l.near.toNat false) := by
  unfold beginM
  rw [if_neg (by rw [h]; decide +kernel), if_neg (by rw [h]; decide +kernel)]
theorem beginM_back {st : Hm} {l : Ltr} (h : l.word = "back") : beginM st l = (strikeM st l, [⟨"gone", st.line, l.near, none⟩]) := by
  unfold beginM
  rw [if_pos h]
theorem callM_grant {st : Hm} {w : Ltr} {x y : Str} {s : NSet} (h : inS s = []) : callM st w x y s = grantM st w := if_pos h
theorem callM_call {st : Hm} {w : Ltr} {x y : Str} {s : NSet} (h : inS s ≠ []) : callM st w x y s = ({ st with aw := some y, an := s }, (inS s).map fun k => ⟨x, st.line, ((k : Nat) : Int), none⟩) := if_neg h
theorem grantM_read {st : Hm} {w : Ltr} (h : w.word = "read") : grantM st w = ({ st with aw := some ("took" : Str), an := setS noneS w.near.toNat true, rd := setS st.rd w.near.toNat true }, [⟨"share", st.line, w.near, st.far⟩]) := if_pos h
theorem grantM_write {st : Hm} {w : Ltr} (h : w.word = "write") : grantM st w = ({ st with aw := some ("took" : Str), an := setS noneS w.near.toNat true, writer := some w.near.toNat, rd := noneS }, [⟨"own", st.line, w.near, st.far⟩]) := if_neg (by rw [h]; decide +kernel)
theorem hearM_took {st : Hm} {l : Ltr} (h : l.word = "took") : hearM st l = ({ st with work := none, aw := none, an := noneS }, []) := if_pos h
theorem strikeM_wr {st : Hm} {l : Ltr} (h : st.writer = some l.near.toNat) : strikeM st l = { st with far := l.words, writer := none, rd := setS st.rd l.near.toNat false } := if_pos h
theorem strikeM_rd {st : Hm} {l : Ltr} (h : st.writer ≠ some l.near.toNat) : strikeM st l = { st with rd := setS st.rd l.near.toNat false } := if_neg h
theorem lowM_low {st : Hm} {l : Ltr} (h : l.word = "lowered") : lowM st l = { strikeM st l with rd := setS (strikeM st l).rd l.near.toNat true } := if_pos h
theorem lowM_yield {st : Hm} {l : Ltr} (h : l.word = "yielded") : lowM st l = strikeM st l := if_neg (by rw [h]; decide +kernel)
theorem hearM_grant {st : Hm} {l wl : Ltr} (h : l.word = "lowered" ∨ l.word = "yielded") (hw : st.work = some wl) (hn : inS (heardM st l).an = []) : hearM st l = grantM (heardM st l) wl := by
  have hw' : (heardM st l).work = some wl := (lowM_same st l).2.1.trans hw
  unfold hearM
  rw [if_neg (by rcases h with h | h <;> rw [h] <;> decide +kernel), hw']
  exact if_pos hn
theorem hearM_wait {st : Hm} {l wl : Ltr} (h : l.word = "lowered" ∨ l.word = "yielded") (hw : st.work = some wl) (hn : inS (heardM st l).an ≠ []) : hearM st l = (heardM st l, []) := by
  have hw' : (heardM st l).work = some wl := (lowM_same st l).2.1.trans hw
  unfold hearM
  rw [if_neg (by rcases h with h | h <;> rw [h] <;> decide +kernel), hw']
  exact if_neg hn
/-! ### what is told, as data -/
def oD : Option Nat → PyData
  | none => .none
  | some k => .int ((k : Nat) : Int)
def natD (ks : List Nat) : List PyData := ks.map fun k => .int ((k : Nat) : Int)
section
variable {K : PySem.W.Frag}
theorem natV_reps {H : Hp} : ∀ ks : List Nat, Reps K H (natV ks) (natD ks)
  | [] => .nil
  | k :: ks => .cons (.int _) (natV_reps ks)
theorem natD_shp {n : Nat} (ks : List Nat) : ∀ d ∈ natD ks, Shp n d := fun d hd => by
  obtain ⟨k, _, rfl⟩ := List.mem_map.mp hd
  exact .int _
theorem oI_rep {H : Hp} (o : Option Nat) : Rep K H (oI o) (oD o) := by
  cases o with
  | none => exact .non
  | some k => exact .int _
theorem oD_shp {n : Nat} (o : Option Nat) : Shp n (oD o) := by
  cases o with
  | none => exact .non
  | some k => exact .int _
theorem lets_rep {H : Hp} {p : Addr} {qs : List Addr} {ls : List Ltr} (h1 : H p = some (.lst (qs.map V.ref))) (h2 : Lets H qs ls) : Rep K H (.ref p) (.list (ls.map Ltr.dat)) := .lst (SqL.of h1) h2.reps
theorem lets_shp {ls : List Ltr} (h : ∀ l ∈ ls, IsWord l.word) : Shp 3 (.list (ls.map Ltr.dat)) := .lst fun d hd => by
  obtain ⟨l, hl, rfl⟩ := List.mem_map.mp hd
  exact l.shp (word_ok (h l hl))
end
end K36

set_option Elab.async false
set_option linter.all false
set_option maxRecDepth 100000
set_option maxHeartbeats 1000000
namespace K36
open PySem L2
theorem writerS_at (k j : Nat) : writerS (some k) j = decide (j = k) := by
  show (if j = k then true else false) = _
  by_cases h : j = k <;> simp [h]
/-! ### k36: reckoning -/
def AskW (x : Str) : Prop := x = "read" ∨ x = "write" ∨ x = "back"
def AnsW (x : Str) : Prop := x = "lowered" ∨ x = "yielded" ∨ x = "took"
structure G0 (ln : Int) (n : Nat) (st : Hm) : Prop where
  el : st.line = ln
  en : st.n = n
  far : ∃ ws, st.far = some ws
  wn : ∀ k, st.writer = some k → k < n
  rn : ∀ k, st.rd k = true → k < n
  row : ∀ x ∈ st.row, AskW x.word ∧ ∃ k : Nat, x.near = ((k : Nat) : Int) ∧ k < n
  nd : (st.row.map Ltr.near).Nodup
  back : ∀ x ∈ st.row, x.words = none → st.writer ≠ some x.near.toNat
structure WkOk (n : Nat) (row : List Ltr) (w : Ltr) : Prop where
  word : w.word = "read" ∨ w.word = "write"
  near : ∃ k : Nat, w.near = ((k : Nat) : Int) ∧ k < n
  row : ∀ x ∈ row, x.near ≠ w.near
structure Gd (ln : Int) (n : Nat) (st : Hm) : Prop where
  g0 : G0 ln n st
  an : ∀ k, st.an k = true → k < n
  wk : ∀ w, st.work = some w → WkOk n st.row w ∧ ∃ x, st.aw = some x ∧ AnsW x
def NearW (x : Str) : Prop := x = "lower" ∨ x = "yield" ∨ x = "share" ∨ x = "own" ∨ x = "gone"
/-- what comes of it is good, and what is sent too -/
def Good (ln : Int) (n m : Nat) (r : Hm × List Ltr) : Prop := Gd ln n r.1 ∧ (∀ l ∈ r.2, NearW l.word) ∧ r.1.row.length ≤ m
theorem strike_G {ln : Int} {n : Nat} {st : Hm} {l : Ltr} (g : G0 ln n st) (h : l.words = none → st.writer ≠ some l.near.toNat) : G0 ln n (strikeM st l) ∧ ∀ k, (strikeM st l).writer = some k → st.writer = some k := by
  by_cases hw : st.writer = some l.near.toNat
  · rw [strikeM_wr hw]
    refine ⟨⟨g.el, g.en, ?_, (fun k e => nomatch e), fun k e => ?_, g.row, g.nd, fun x _ _ e => nomatch e⟩, fun k e => nomatch e⟩
    · cases hl : l.words with
      | none => exact absurd hw (h hl)
      | some ws => exact ⟨ws, rfl⟩
    · have e : setS st.rd l.near.toNat false k = true := e
      unfold setS at e
      split at e
      · cases e
      · exact g.rn k e
  · rw [strikeM_rd hw]
    refine ⟨⟨g.el, g.en, g.far, g.wn, fun k e => ?_, g.row, g.nd, g.back⟩, fun k e => e⟩
    have e : setS st.rd l.near.toNat false k = true := e
    unfold setS at e
    split at e
    · cases e
    · exact g.rn k e
theorem one_an {n k : Nat} {w : Ltr} (hn : ∃ k : Nat, w.near = ((k : Nat) : Int) ∧ k < n) (h : setS noneS w.near.toNat true k = true) : k < n := by
  obtain ⟨j, e, hj⟩ := hn
  unfold setS at h
  split at h
  · rw [e] at *
    omega
  · cases h
theorem grant_G {ln : Int} {n : Nat} {st : Hm} {w : Ltr} (g : G0 ln n st) (hw : WkOk n st.row w) (ew : st.work = some w) : Good ln n st.row.length (grantM st w) := by
  obtain ⟨k, ek, hk⟩ := hw.near
  have tk : w.near.toNat = k := by rw [ek]; rfl
  rcases hw.word with h | h
  · rw [grantM_read h]
    refine ⟨⟨⟨g.el, g.en, g.far, g.wn, fun j e => ?_, g.row, g.nd, g.back⟩, fun j e => one_an hw.near e, fun w' e => ?_⟩, fun l hl => ?_, Nat.le_refl _⟩
    · have e : setS st.rd w.near.toNat true j = true := e
      unfold setS at e
      split at e
      · omega
      · exact g.rn j e
    · obtain rfl : w = w' := Option.some.inj (ew.symm.trans e)
      exact ⟨hw, "took", rfl, .inr (.inr rfl)⟩
    · rw [List.mem_singleton.mp hl]
      exact .inr (.inr (.inl rfl))
  · rw [grantM_write h]
    refine ⟨⟨⟨g.el, g.en, g.far, fun j e => ?_, (fun j e => nomatch e), g.row, g.nd, fun x hx _ e => ?_⟩, fun j e => one_an hw.near e, fun w' e => ?_⟩, fun l hl => ?_, Nat.le_refl _⟩
    · have := Option.some.inj e
      omega
    · obtain ⟨_, j, ej, _⟩ := g.row x hx
      have e2 : w.near.toNat = x.near.toNat := Option.some.inj e
      rw [ej, ek] at e2
      have : k = j := e2
      exact hw.row x hx (by rw [ej, ek, this])
    · obtain rfl : w = w' := Option.some.inj (ew.symm.trans e)
      exact ⟨hw, "took", rfl, .inr (.inr rfl)⟩
    · rw [List.mem_singleton.mp hl]
      exact .inr (.inr (.inr (.inl rfl)))
theorem call_G {ln : Int} {n : Nat} {st : Hm} {w : Ltr} {x y : Str} {s : NSet} (g : G0 ln n st) (hw : WkOk n st.row w) (ew : st.work = some w) (hs : ∀ k, s k = true → k < n) (hx : NearW x) (hy : AnsW y) : Good ln n st.row.length (callM st w x y s) := by
  by_cases h : inS s = []
  · rw [callM_grant h]
    exact grant_G g hw ew
  · rw [callM_call h]
    refine ⟨⟨⟨g.el, g.en, g.far, g.wn, g.rn, g.row, g.nd, g.back⟩, hs, fun w' e => ?_⟩, fun l hl => ?_, Nat.le_refl _⟩
    · obtain rfl : w = w' := Option.some.inj (ew.symm.trans e)
      exact ⟨hw, y, rfl, hy⟩
    · obtain ⟨k, _, rfl⟩ := List.mem_map.mp hl
      exact hx
theorem writer_lt {ln : Int} {n : Nat} {st : Hm} (g : G0 ln n st) (k : Nat) (h : writerS st.writer k = true) : k < n := by
  cases hw : st.writer with
  | none => rw [hw] at h; cases h
  | some o =>
    rw [hw, writerS_at] at h
    rw [of_decide_eq_true h]
    exact g.wn o hw
theorem begin_G {ln : Int} {n : Nat} {st : Hm} {x : Ltr} (g : G0 ln n st) (hn : ∀ k, st.an k = true → k < n) (ew : st.work = none) (hx : AskW x.word) (hnr : ∃ k : Nat, x.near = ((k : Nat) : Int) ∧ k < n) (hr : ∀ y ∈ st.row, y.near ≠ x.near) (hb : x.words = none → st.writer ≠ some x.near.toNat) : Good ln n st.row.length (beginM st x) := by
  rcases hx with h | h | h
  · rw [beginM_read h]
    exact call_G (st := { st with work := some x }) ⟨g.el, g.en, g.far, g.wn, g.rn, g.row, g.nd, g.back⟩ ⟨.inl h, hnr, hr⟩ rfl (fun k hk => writer_lt g k hk) (.inl rfl) (.inl rfl)
  · rw [beginM_write h]
    refine call_G (st := { st with work := some x }) ⟨g.el, g.en, g.far, g.wn, g.rn, g.row, g.nd, g.back⟩ ⟨.inr h, hnr, hr⟩ rfl (fun k hk => ?_) (.inr (.inl rfl)) (.inr (.inl rfl))
    have hk : setS (orS (writerS st.writer) st.rd) x.near.toNat false k = true := hk
    unfold setS orS at hk
    split at hk
    · cases hk
    · rcases Bool.or_eq_true_iff.mp hk with z | z
      · exact writer_lt g k z
      · exact g.rn k z
  · rw [beginM_back h]
    obtain ⟨g1, _⟩ := strike_G g hb
    obtain ⟨e1, e2, e3, _⟩ := strikeM_same st x
    refine ⟨⟨g1, fun k e => hn k (by rw [e3] at e; exact e), fun w e => ?_⟩, fun l hl => ?_, by rw [e1]; exact Nat.le_refl _⟩
    · have e : (strikeM st x).work = some w := e
      rw [e2, ew] at e
      cases e
    · rw [List.mem_singleton.mp hl]
      exact .inr (.inr (.inr (.inr rfl)))
theorem work_G {ln : Int} {n : Nat} : ∀ (r : List Ltr) (st : Hm), Gd ln n { st with row := r } → Good ln n r.length (workL r st)
  | [], st, g => ⟨g, (fun l h => by cases h), Nat.le_refl _⟩
  | x :: t, st, g => by
    cases hw : st.work with
    | some w =>
      have e : workL (x :: t) st = ({ st with row := x :: t }, []) := by
        unfold workL
        rw [if_pos (by rw [hw]; rfl)]
      rw [e]
      exact ⟨g, (fun l h => by cases h), Nat.le_refl _⟩
    | none =>
      rw [workL_step hw]
      have g0 := g.g0
      have nd := g0.nd
      rw [List.map_cons, List.nodup_cons] at nd
      obtain ⟨h1, h2⟩ := g0.row x (List.mem_cons_self ..)
      have b := begin_G (st := { st with row := t }) ⟨g0.el, g0.en, g0.far, g0.wn, g0.rn, fun y hy => g0.row y (List.mem_cons_of_mem _ hy), nd.2, fun y hy => g0.back y (List.mem_cons_of_mem _ hy)⟩ g.an hw h1 h2 (fun y hy e => nd.1 (List.mem_map.mpr ⟨y, hy, e⟩)) (g0.back x (List.mem_cons_self ..))
      have br : (beginM { st with row := t } x).1.row = t := beginM_row _ _
      have e : ({ (beginM { st with row := t } x).1 with row := t } : Hm) = (beginM { st with row := t } x).1 := by
        generalize (beginM { st with row := t } x).1 = s at br
        rw [← br]
      have ih := work_G t (beginM { st with row := t } x).1 (by rw [e]; exact b.1)
      refine ⟨ih.1, fun l hl => ?_, Nat.le_succ_of_le ih.2.2⟩
      rcases List.mem_append.mp hl with h | h
      · exact b.2.1 l h
      · exact ih.2.1 l h
/-- a near asks -/
theorem ask_G {ln : Int} {n k : Nat} {st : Hm} {l : Ltr} (g : Gd ln n st) (hl : AskW l.word) (hk : k < n) (ek : l.near = ((k : Nat) : Int)) (hr : ∀ y ∈ st.row, y.near ≠ l.near) (hw : ∀ w, st.work = some w → w.near ≠ l.near) (hb : l.words = none → st.writer ≠ some k) : Good ln n (st.row.length + 1) (comeM st l) := by
  have ec : comeM st l = workL (st.row ++ [l]) st := by
    unfold comeM
    rw [if_pos (asks_yes hl)]
  rw [ec]
  have g0 := g.g0
  have := work_G (st.row ++ [l]) st ⟨⟨g0.el, g0.en, g0.far, g0.wn, g0.rn, fun x hx => ?_, ?_, fun x hx => ?_⟩, g.an, fun w e => ?_⟩
  · rw [List.length_append] at this
    exact this
  · rcases List.mem_append.mp hx with h | h
    · exact g0.row x h
    · rw [List.mem_singleton.mp h]
      exact ⟨hl, k, ek, hk⟩
  · show ((st.row ++ [l]).map Ltr.near).Nodup
    rw [List.map_append, List.nodup_append]
    refine ⟨g0.nd, (List.nodup_cons.mpr ⟨List.not_mem_nil, List.nodup_nil⟩), fun a ha c hc e => ?_⟩
    obtain ⟨x, hx, rfl⟩ := List.mem_map.mp ha
    have : c = l.near := List.mem_singleton.mp hc
    exact hr x hx (e.trans this)
  · rcases List.mem_append.mp hx with h | h
    · exact g0.back x h
    · rw [List.mem_singleton.mp h, ek]
      exact hb
  · obtain ⟨h1, h2⟩ := g.wk w e
    refine ⟨⟨h1.word, h1.near, fun x hx => ?_⟩, h2⟩
    rcases List.mem_append.mp hx with h | h
    · exact h1.row x h
    · rw [List.mem_singleton.mp h]
      exact fun z => hw w e z.symm
/-- who is awaited answers -/
theorem ans_G {ln : Int} {n k : Nat} {st : Hm} {l w : Ltr} {ws : List Int} (g : Gd ln n st) (ew : st.work = some w) (hx : AnsW l.word) (hl : l.words = some ws) (hk : k < n) (ek : l.near = ((k : Nat) : Int)) : Good ln n (st.row.length + 1) (comeM st l) := by
  have ano : asks l.word = false := asks_no hx
  obtain ⟨hwk, x, hax, hx2⟩ := g.wk w ew
  have tail : ∀ s : Hm, Good ln n st.row.length (s, (hearM st l).2) → (hearM st l).1 = s → Good ln n (st.row.length + 1) (comeM st l) := fun s gs es => by
    have ec : comeM st l = ((workL s.row s).1, (hearM st l).2 ++ (workL s.row s).2) := by
      unfold comeM
      rw [if_neg (by rw [ano]; decide)]
      dsimp only
      rw [es]
    rw [ec]
    have w1 := work_G s.row s gs.1
    refine ⟨w1.1, fun y hy => ?_, ?_⟩
    · rcases List.mem_append.mp hy with h | h
      · exact gs.2.1 y h
      · exact w1.2.1 y h
    · have := w1.2.2
      have := gs.2.2
      dsimp only at *
      omega
  by_cases ht : l.word = "took"
  · have eh := hearM_took (st := st) ht
    refine tail { st with work := none, aw := none, an := noneS } ?_ (by rw [eh])
    rw [eh]
    have g0 := g.g0
    exact ⟨⟨⟨g0.el, g0.en, g0.far, g0.wn, g0.rn, g0.row, g0.nd, g0.back⟩, (fun k e => nomatch e), (fun w e => nomatch e)⟩, (fun y h => by cases h), Nat.le_refl _⟩
  · have hlo : l.word = "lowered" ∨ l.word = "yielded" := by
      rcases hx with h | h | h
      · exact .inl h
      · exact .inr h
      · exact absurd h ht
    obtain ⟨g1, hw1⟩ := strike_G (l := l) g.g0 (fun z => by rw [hl] at z; cases z)
    obtain ⟨e1, e2, e3, e4, e5⟩ := strikeM_same st l
    have gl : G0 ln n (lowM st l) ∧ (lowM st l).row = st.row := by
      rcases hlo with h | h
      · rw [lowM_low h]
        refine ⟨⟨g1.el, g1.en, g1.far, g1.wn, fun j e => ?_, g1.row, g1.nd, g1.back⟩, e1⟩
        have e : setS (strikeM st l).rd l.near.toNat true j = true := e
        unfold setS at e
        split at e
        · rw [ek] at *
          omega
        · exact g1.rn j e
      · rw [lowM_yield h]
        exact ⟨g1, e1⟩
    obtain ⟨l1, l2, l3, l4, l5⟩ := lowM_same st l
    have gh : G0 ln n (heardM st l) := ⟨gl.1.el, gl.1.en, gl.1.far, gl.1.wn, gl.1.rn, gl.1.row, gl.1.nd, gl.1.back⟩
    have hwh : (heardM st l).work = some w := l2.trans ew
    have hrow : (heardM st l).row = st.row := l1
    have hwk' : WkOk n (heardM st l).row w := by rw [hrow]; exact hwk
    by_cases hn : inS (heardM st l).an = []
    · have eh := hearM_grant hlo ew hn
      have gg := grant_G gh hwk' hwh
      refine tail (grantM (heardM st l) w).1 ?_ (by rw [eh])
      rw [eh]
      refine ⟨gg.1, gg.2.1, ?_⟩
      rw [← hrow]
      exact gg.2.2
    · have eh := hearM_wait hlo ew hn
      refine tail (heardM st l) ?_ (by rw [eh])
      rw [eh]
      refine ⟨⟨gh, fun j e => ?_, fun w' e => ?_⟩, (fun y h => by cases h), by rw [← hrow]; exact Nat.le_refl _⟩
      · have e : setS (lowM st l).an l.near.toNat false j = true := e
        unfold setS at e
        split at e
        · cases e
        · rw [l5] at e
          exact g.an j e
      · have e : (heardM st l).work = some w' := e
        rw [hwh] at e
        obtain rfl : w = w' := Option.some.inj e
        refine ⟨hwk', x, ?_, hx2⟩
        show (lowM st l).aw = some x
        have ea : ∀ s : Hm, (strikeM s l).aw = s.aw := fun s => by
          unfold strikeM
          split <;> rfl
        unfold lowM
        split
        · exact (ea st).trans hax
        · exact (ea st).trans hax

/-- the letter that the law lets come: told by the home's data, the near k and the cell -/
def scan (k : Nat) (c : Int) : List Nat → Option Nat
  | [] => none
  | j :: js => if j = k ∨ c % 3 = 0 then some j else scan k c js
def letA (st : Hm) (ln : Int) (k : Nat) (c : Int) : Option Ltr :=
  if (st.row.any fun x => decide (x.near = ((k : Nat) : Int))) = true then none
  else if st.writer = some k then some ⟨"back", ln, ((k : Nat) : Int), some [c % 10 ^ (60 : Int).toNat]⟩
  else if st.rd k = true then some ⟨if c / 3 % 2 = 0 then "write" else "back", ln, ((k : Nat) : Int), none⟩
  else some ⟨if c / 3 % 2 = 0 then "read" else "write", ln, ((k : Nat) : Int), none⟩
def letB (st : Hm) (w : Ltr) (x : Str) (ln : Int) (k : Nat) (c : Int) : Option Ltr :=
  match scan k c (inS st.an) with
  | some j => some ⟨x, ln, ((j : Nat) : Int), some [c % 10 ^ (60 : Int).toNat]⟩
  | none => if w.near = ((k : Nat) : Int) then none else letA st ln k c
def letF (st : Hm) (ln : Int) (k : Nat) (c : Int) : Option Ltr :=
  match st.work, st.aw with
  | some w, some x => letB st w x ln k c
  | _, _ => letA st ln k c
def comeL (st : Hm) (ln : Int) (k : Nat) (c : Int) : Hm × List Ltr :=
  match letF st ln k c with
  | none => (st, [])
  | some l => comeM st l
theorem scan_mem {k j : Nat} {c : Int} : ∀ {ks : List Nat}, scan k c ks = some j → j ∈ ks
  | [], h => by cases h
  | i :: ks, h => by
    unfold scan at h
    split at h
    · rw [Option.some.inj h]
      exact List.mem_cons_self ..
    · exact List.mem_cons_of_mem _ (scan_mem h)
/-- a letter that may come -/
structure MayC (ln : Int) (n : Nat) (st : Hm) (l : Ltr) : Prop where
  aw : awaitsB st l = true
  kw : asks l.word = true ∨ ∃ wl, st.work = some wl
  word : AskW l.word ∨ AnsW l.word
  good : Good ln n (st.row.length + 1) (comeM st l)
theorem may_ask {ln : Int} {n k : Nat} {st : Hm} {l : Ltr} (g : Gd ln n st) (hk : k < n) (ek : l.near = ((k : Nat) : Int)) (eln : l.line = ln) (hw : ∀ w, st.work = some w → w.near ≠ ((k : Nat) : Int)) (hr : (st.row.any fun x => decide (x.near = ((k : Nat) : Int))) = false) (hl : AskW l.word) (hb : l.words = none → st.writer ≠ some k) : MayC ln n st l := by
  have hr' : ∀ y ∈ st.row, y.near ≠ l.near := fun y hy e => by
    rw [List.any_eq_false] at hr
    exact hr y hy (by rw [e, ek]; simp)
  refine ⟨awaits_busy (asks_yes hl) ?_ (by rw [eln, g.g0.el]) (by rw [ek]; exact Int.natCast_nonneg k) (by rw [ek, g.g0.en]; omega), .inl (asks_yes hl), .inl hl, ask_G g hl hk ek hr' (fun w e => by rw [ek]; exact hw w e) hb⟩
  unfold hasAsked
  rw [ek, hr, Bool.false_or]
  cases h : st.work with
  | none => rfl
  | some w =>
    show (decide (w.near = ((k : Nat) : Int)) && _) = false
    rw [decide_eq_false (hw w h)]
    rfl
theorem may_A {ln : Int} {n k : Nat} {st : Hm} {l : Ltr} {c : Int} (g : Gd ln n st) (hk : k < n) (hw : ∀ w, st.work = some w → w.near ≠ ((k : Nat) : Int)) (h : letA st ln k c = some l) : MayC ln n st l := by
  unfold letA at h
  split at h
  · cases h
  rename_i hr
  rw [Bool.not_eq_true] at hr
  split at h
  · obtain rfl := Option.some.inj h
    exact may_ask g hk rfl rfl hw hr (.inr (.inr rfl)) (fun z => nomatch z)
  rename_i hwr
  split at h
  · obtain rfl := Option.some.inj h
    refine may_ask g hk rfl rfl hw hr ?_ fun _ => hwr
    show AskW (if c / 3 % 2 = 0 then "write" else "back")
    split
    · exact .inr (.inl rfl)
    · exact .inr (.inr rfl)
  · obtain rfl := Option.some.inj h
    refine may_ask g hk rfl rfl hw hr ?_ fun _ => hwr
    show AskW (if c / 3 % 2 = 0 then "read" else "write")
    split
    · exact .inl rfl
    · exact .inr (.inl rfl)
theorem may_B {ln : Int} {n k : Nat} {st : Hm} {w l : Ltr} {x : Str} {c : Int} (g : Gd ln n st) (hk : k < n) (ew : st.work = some w) (ex : st.aw = some x) (hx : AnsW x) (h : letB st w x ln k c = some l) : MayC ln n st l := by
  unfold letB at h
  split at h
  · rename_i j hj
    obtain rfl := Option.some.inj h
    have hm := inS_mem.mp (scan_mem hj)
    have hjn := g.an j hm.2
    exact ⟨awaits_ans (asks_no hx) ex hm.2 g.g0.el.symm (Int.natCast_nonneg j) (by show ((j : Nat) : Int) < ((st.n : Nat) : Int); rw [g.g0.en]; omega), .inr ⟨w, ew⟩, .inr hx, ans_G g ew hx rfl hjn rfl⟩
  · split at h
    · cases h
    · rename_i hne
      exact may_A g hk (fun w' e => by obtain rfl : w = w' := Option.some.inj (ew.symm.trans e); exact hne) h
theorem may_F {ln : Int} {n k : Nat} {st : Hm} {l : Ltr} {c : Int} (g : Gd ln n st) (hk : k < n) (h : letF st ln k c = some l) : MayC ln n st l := by
  unfold letF at h
  split at h
  · rename_i w x ew ex
    obtain ⟨_, y, ey, hy⟩ := g.wk w ew
    obtain rfl : x = y := Option.some.inj (ex.symm.trans ey)
    exact may_B g hk ew ex hy h
  · rename_i hno
    refine may_A g hk (fun w e => ?_) h
    obtain ⟨_, x, ex, _⟩ := g.wk w e
    exact (hno w x e ex).elim
theorem comeL_good {ln : Int} {n k : Nat} {st : Hm} {c : Int} (g : Gd ln n st) (hk : k < n) : Good ln n (st.row.length + 1) (comeL st ln k c) := by
  unfold comeL
  cases h : letF st ln k c with
  | none => exact ⟨g, (fun l h => by cases h), Nat.le_succ _⟩
  | some l => exact (may_F g hk h).good
end K36

set_option Elab.async false
set_option linter.all false
set_option maxRecDepth 100000
set_option maxHeartbeats 1000000
namespace K36
open PySem L2
abbrev sSeen : Stmt := top 17
abbrev sWhole : Stmt := top 18
abbrev sLetter : Stmt := top 19
abbrev sComeL : Stmt := top 20
abbrev sHeld : Stmt := top 21
abbrev sPlace : Stmt := top 22
abbrev sLaw : Stmt := top 23
section
variable {P : Program} {w : World} {K : PySem.W.Frag} {mg : Str → Option Value} {base : Heap} {cH aA cU : Addr}
def WkP (C : Hp) (v : V) (st : Hm) : Prop := (st.work = none ∧ v = .non) ∨ ∃ w x p q d ts, st.work = some w ∧ st.aw = some x ∧ v = .ref p ∧ C p = some (.tup [.ref q, .ref d]) ∧ LtAt C q w ∧ C d = some (.tup ((ts : List Addr).map V.ref)) ∧ Pairs C x ts (inS st.an)
structure PicR (C : Hp) (t : Addr) (st : Hm) (vf : V) (a b : Addr) (vw : V) (qs : List Addr) : Prop where
  e : C t = some (.tup [vf, oI st.writer, .ref a, .ref b, vw])
  hf : WoAt C vf st.far
  ea : C a = some (.tup (natV (inS st.rd)))
  eb : C b = some (.tup (qs.map V.ref))
  lb : Lets C qs st.row
  wk : WkP C vw st
def PicAt (C : Hp) (t : Addr) (st : Hm) : Prop := ∃ vf a b vw qs, PicR C t st vf a b vw qs
def wkD (st : Hm) : PyData := match st.work, st.aw with
  | some w, some x => .tuple [w.dat, .tuple ((inS st.an).map fun k => .tuple [.str x, .int ((k : Nat) : Int)])]
  | _, _ => .none
def picD (st : Hm) : PyData := .tuple [st.far.dat, oD st.writer, .tuple (natD (inS st.rd)), .tuple (st.row.map Ltr.dat), wkD st]
def spPicture (cH : Addr) : Sp := fun vs H Q _ => ∃ (a pS : Addr) (st : Hm) (ln : Int) (n : Nat), vs = [.ref a] ∧ HomeAt cH H a pS st ∧ Gd ln n st ∧ st.row.length ≤ 500 ∧ ∀ t H', Same H H' → PicAt H' t st → Q (.ref t) H'
def spTwin (cH : Addr) : Sp := fun vs H Q _ => ∃ (a pS : Addr) (st : Hm), vs = [.ref a] ∧ HomeAt cH H a pS st ∧ ∀ o pO H', Same H H' → H o = none → H pO = none → HomeAt cH H' o pO st → Q (.ref o) H'
def spSeen (cH : Addr) : Sp := fun vs H Q _ => ∃ (a pS : Addr) (st : Hm) (ln : Int) (n : Nat), vs = [.ref a] ∧ HomeAt cH H a pS st ∧ Gd ln n st ∧ st.row.length ≤ 500 ∧ ∀ t H', Same H H' → PicAt H' t st → Q (.ref t) H'
def spWhole (cH : Addr) : Sp := fun vs H Q _ => ∃ (a pS : Addr) (st : Hm) (ln : Int) (n : Nat), vs = [.ref a] ∧ HomeAt cH H a pS st ∧ Gd ln n st ∧ st.row.length ≤ 500 ∧ ∀ t H', Same H H' → PicAt H' t st → Q (.ref t) H'
def spLetter (cH : Addr) : Sp := fun vs H Q _ => ∃ (a pS : Addr) (st : Hm) (ln c : Int) (n k : Nat), vs = [.ref a, .int ln, .int ((k : Nat) : Int), .int c] ∧ HomeAt cH H a pS st ∧ Gd ln n st ∧ k < n ∧ n ≤ 64 ∧ st.row.length ≤ 500 ∧ (letF st ln k c = none → ∀ H', Same H H' → Q .non H') ∧ ∀ l, letF st ln k c = some l → ∀ p H', Same H H' → LtAt H' p l → Q (.ref p) H'
/-- a list that was told, and what it holds -/
def HeldV (C : Hp) (xs : List V) : Prop := (∃ qs ls, xs = qs.map V.ref ∧ Lets C qs ls ∧ ∀ l ∈ ls, IsWord l.word) ∨ (∃ ks, xs = natV ks) ∨ ∃ x ts ks, xs = ts.map V.ref ∧ Pairs C x ts ks ∧ IsWord x
structure HeldR (C : Hp) (no : List Addr) (t : Addr) (p q : Addr) (xs : List V) : Prop where
  e : C t = some (.tup [.ref p, .ref q])
  ep : C p = some (.lst xs)
  eq : C q = some (.lst xs)
  v : HeldV C xs
  np : p ∉ no
  nq : q ∉ no
def Helds (C : Hp) (no ts : List Addr) : Prop := ∀ t ∈ ts, ∃ p q xs, HeldR C no t p q xs
def spComeL (cH : Addr) : Sp := fun vs H Q _ => ∃ (a pS pK : Addr) (st : Hm) (ln c : Int) (n k : Nat) (no ts : List Addr), vs = [.ref a, .int ln, .int ((k : Nat) : Int), .int c, .ref pK] ∧ HomeAt cH H a pS st ∧ Gd ln n st ∧ k < n ∧ n ≤ 64 ∧ st.row.length ≤ 400 ∧ pK ≠ pS ∧ H pK = some (.lst (ts.map V.ref)) ∧ ts.length ≤ 3000 ∧ Helds H no ts ∧ a ∈ no ∧ pS ∈ no ∧ pK ∈ no ∧ (∀ x ∈ no, H x ≠ none) ∧
  ∀ p ps H' us, SB [a, pS, pK] H H' → H p = none → HomeAt cH H' a pS (comeL st ln k c).1 → H' p = some (.lst (ps.map V.ref)) → Lets H' ps (comeL st ln k c).2 → H' pK = some (.lst ((ts ++ us).map V.ref)) → us.length ≤ 4 → Helds H' no (ts ++ us) → Q (.ref p) H'
def spHeld : Sp := fun vs H Q _ => ∃ (pK : Addr) (no ts : List Addr), vs = [.ref pK] ∧ H pK = some (.lst (ts.map V.ref)) ∧ Helds H no ts ∧ ∀ H', Same H H' → Q (.bl true) H'
def spPlace (K : PySem.W.Frag) : Sp := fun vs H Q _ => ∃ (a : Addr) (ns : List Int) (c : Int), vs = [.ref a, .int c] ∧ SqL K H a (ns.map V.int) ∧ ∀ m : Nat, Q (.int ((m : Nat) : Int)) H

theorem next_ {D : Ends} {σ : St} {H : Hp} (h : D.nx σ H) : tNext D σ H := h
theorem seq_con {v : V} {i : Nat} {u : TS} {D : Ends} {σ : St} {H : Hp} (h : u D (σ.set i (some v)) H) : tSeq (tAsg (tC v) (gName i)) u D σ H := h
theorem same_new {H C : Hp} {p : Addr} {o : HO} (s : Same H C) (hp : H p = none) : Same H (L2.upd C p o) := fun b u e => by
  rw [upd_ne (fun z => by rw [z, hp] at e; cases e)]
  exact s b u e
theorem WkP.kt {C C' : Hp} {v : V} {st : Hm} (h : WkP C v st) (k : KTup C C') : WkP C' v st := by
  rcases h with h | ⟨w, x, p, q, d, ts, h1, h2, h3, h4, h5, h6, h7⟩
  · exact .inl h
  · exact .inr ⟨w, x, p, q, d, ts, h1, h2, h3, k _ _ h4, h5.kt k, k _ _ h6, h7.kt k⟩
theorem PicAt.kt {C C' : Hp} {t : Addr} {st : Hm} (h : PicAt C t st) (k : KTup C C') : PicAt C' t st := by
  obtain ⟨vf, a, b, vw, qs, r⟩ := h
  exact ⟨vf, a, b, vw, qs, k _ _ r.e, r.hf.kt k, k _ _ r.ea, k _ _ r.eb, r.lb.kt k, r.wk.kt k⟩
theorem WkP.rep {C : Hp} {v : V} {st : Hm} (h : WkP C v st) : Rep K C v (wkD st) := by
  unfold wkD
  rcases h with ⟨h1, rfl⟩ | ⟨w, x, p, q, d, ts, h1, h2, rfl, h4, h5, h6, h7⟩
  · rw [h1]
    exact .non
  · rw [h1, h2]
    exact .tup (SqT.of h4) (.cons h5.rep (.cons (.tup (SqT.of h6) h7.reps) .nil))
theorem PicAt.rep {C : Hp} {t : Addr} {st : Hm} (h : PicAt C t st) : Rep K C (.ref t) (picD st) := by
  obtain ⟨vf, a, b, vw, qs, r⟩ := h
  exact .tup (SqT.of r.e) (.cons r.hf.rep (.cons (oI_rep _) (.cons (.tup (SqT.of r.ea) (natV_reps _)) (.cons (.tup (SqT.of r.eb) r.lb.reps) (.cons r.wk.rep .nil)))))
theorem ask_isw {x : Str} (h : AskW x) : IsWord x := word_home (by rcases h with rfl | rfl | rfl <;> simp)
theorem ans_isw {x : Str} (h : AnsW x) : IsWord x := word_home (by rcases h with rfl | rfl | rfl <;> simp)
theorem near_isw {x : Str} (h : NearW x) : IsWord x := word_near (by rcases h with rfl | rfl | rfl | rfl | rfl <;> simp)
theorem WkOk.isw {n : Nat} {row : List Ltr} {w : Ltr} (h : WkOk n row w) : IsWord w.word := word_home (by rcases h.word with e | e <;> rw [e] <;> simp)
theorem wo_shp3 (wd : Wo) : Shp 3 wd.dat := by
  cases wd with
  | none => exact .non
  | some ws => exact .tup (ints_shp ws)
theorem wk_shp {ln : Int} {n : Nat} {st : Hm} (g : Gd ln n st) : Shp 3 (wkD st) := by
  unfold wkD
  cases hw : st.work with
  | none => exact .non
  | some w =>
    obtain ⟨h1, x, hx, h2⟩ := g.wk w hw
    rw [hx]
    refine .tup (all1 (w.shp (word_ok h1.isw)) (all1 (.tup fun d hd => ?_) all0))
    obtain ⟨k, _, rfl⟩ := List.mem_map.mp hd
    exact .tup (n := 0) (all1 (.str (word_ok (ans_isw h2))) (all1 (.int _) all0))
theorem pic_shp {ln : Int} {n : Nat} {st : Hm} (g : Gd ln n st) : Shp 4 (picD st) := .tup (all1 (wo_shp3 _) (all1 (oD_shp _) (all1 (.tup (natD_shp _)) (all1 (.tup fun d hd => by
  obtain ⟨l, hl, rfl⟩ := List.mem_map.mp hd
  exact l.shp (word_ok (ask_isw (g.g0.row l hl).1))) (all1 (wk_shp g) all0)))))
/-- what work() tells -/
def WorkL (H C : Hp) (v : V) (st : Hm) : Prop := (st.work = none ∧ v = .non) ∨ ∃ w x p q D ts, st.work = some w ∧ st.aw = some x ∧ v = .ref p ∧ C p = some (.tup [.ref q, .ref D]) ∧ LtAt C q w ∧ C D = some (.lst ((ts : List Addr).map V.ref)) ∧ Pairs C x ts (inS st.an) ∧ H D = none
theorem use_work {H : Hp} {a pS : Addr} {st : Hm} {ln : Int} {n : Nat} {Q : VK} {E : XK} (hH : HomeAt cH H a pS st) (g : Gd ln n st) (k : ∀ v H', Same H H' → WorkL H H' v st → Q v H') : spWork cH [.ref a] H Q E := by
  refine ⟨a, pS, st, rfl, hH, ?_⟩
  cases hw : st.work with
  | none => exact .inl ⟨rfl, k _ _ (Same.refl _) (.inl ⟨hw, rfl⟩)⟩
  | some w =>
    obtain ⟨_, x, hx, _⟩ := g.wk w hw
    exact .inr ⟨w, x, rfl, hx, fun p q D ts H' s hp hD e l f g => k _ _ s (.inr ⟨w, x, p, q, D, ts, hw, hx, rfl, e, l, f, g, hD⟩)⟩
theorem sc_picture : FnScope ["self", "work"] ["self"] (defScope sHome_picture) := ⟨rfl, rfl, rfl, by decide +kernel, rfl, by decide +kernel, by decide +kernel⟩
theorem ok_picture {f : Addr} {fd : FuncData} (F : FunD K "picture" "Home.picture" sHome_picture f fd .none) (Z : Bl mg) (S : HCl K cH) (M_work : MS P w K mg base 2 (RR cH (spWork cH)) "work") (C_nears_in : CalD P w K mg base (CXE P w) 1 "nears_in" ["bits"] [] spNears) :
    FnOk P w K mg base (CXE P w) 3 f fd ["self"] (spPicture cH) := by
  refine F.ok0 sc_picture (fun vs H Q E h => ?_) (fun cdv A outer s H vs Q E hr h => ?_)
  · obtain ⟨a, pS, st, ln, n, rfl, _⟩ := h
    rfl
  · obtain ⟨a, pS, st, ln, n, rfl, hH, g, hrl, kk⟩ := h
    have nd := sc_picture.nd
    apply body_of
    (conv => arg 2; whnf)
    with_reducible
      apply q_then
      apply q_set (i := 1)
      apply q_meth0
      apply q_var (i := 0)
      with_unfolding_all first | exact ⟨rfl, Or.inl rfl, by decide, by decide⟩ | exact ⟨rfl, Or.inr (Or.inl rfl), by decide, by decide⟩ | exact ⟨rfl, Or.inr (Or.inr rfl), by decide, by decide⟩
      with_unfolding_all exact ⟨M_work, hr.mono (by decide), passes_none, rfl⟩
      with_unfolding_all exact ⟨nd, rfl, Or.inl rfl, rfl, Or.inl rfl⟩
      apply q_then
      apply q_if
      apply q_tcmp
      apply q_var (i := 1)
      with_unfolding_all first | exact ⟨rfl, Or.inl rfl, by decide, by decide⟩ | exact ⟨rfl, Or.inr (Or.inl rfl), by decide, by decide⟩ | exact ⟨rfl, Or.inr (Or.inr rfl), by decide, by decide⟩
      apply q_non
      with_unfolding_all exact ⟨op_notN, nomark _⟩
      apply q_last
      apply q_set (i := 1)
      apply q_tupA
      apply q_cons
      apply q_ix
      apply q_var (i := 1)
      with_unfolding_all first | exact ⟨rfl, Or.inl rfl, by decide, by decide⟩ | exact ⟨rfl, Or.inr (Or.inl rfl), by decide, by decide⟩ | exact ⟨rfl, Or.inr (Or.inr rfl), by decide, by decide⟩
      apply q_int
      with_unfolding_all exact ⟨kix (K := K) rfl, fun _ _ => rfl⟩
      apply q_cons
      apply q_ct
      apply q_cons
      apply q_ix
      apply q_var (i := 1)
      with_unfolding_all first | exact ⟨rfl, Or.inl rfl, by decide, by decide⟩ | exact ⟨rfl, Or.inr (Or.inl rfl), by decide, by decide⟩ | exact ⟨rfl, Or.inr (Or.inr rfl), by decide, by decide⟩
      apply q_int
      with_unfolding_all exact ⟨kix (K := K) rfl, fun _ _ => rfl⟩
      apply q_nil
      with_unfolding_all exact rfl
      with_unfolding_all exact ⟨ktupleB (K := K) rfl, Z.tuple, bb_tuple, rfl, rfl, by decide, by decide⟩
      apply q_nil
      with_unfolding_all exact rfl
      with_unfolding_all exact rfl
      with_unfolding_all exact ⟨nd, rfl, Or.inl rfl, rfl, Or.inl rfl⟩
      apply q_end
      apply q_last
      apply q_ret
      apply q_tupA
      apply q_cons
      apply q_fld (K := K)
      apply q_var (i := 0)
      with_unfolding_all first | exact ⟨rfl, Or.inl rfl, by decide, by decide⟩ | exact ⟨rfl, Or.inr (Or.inl rfl), by decide, by decide⟩ | exact ⟨rfl, Or.inr (Or.inr rfl), by decide, by decide⟩
      with_unfolding_all exact ⟨rfl, rfl⟩
      apply q_cons
      apply q_fld (K := K)
      apply q_var (i := 0)
      with_unfolding_all first | exact ⟨rfl, Or.inl rfl, by decide, by decide⟩ | exact ⟨rfl, Or.inr (Or.inl rfl), by decide, by decide⟩ | exact ⟨rfl, Or.inr (Or.inr rfl), by decide, by decide⟩
      with_unfolding_all exact ⟨rfl, rfl⟩
      apply q_cons
      apply q_ct
      apply q_cons
      apply q_call
      apply q_cons
      apply q_fld (K := K)
      apply q_var (i := 0)
      with_unfolding_all first | exact ⟨rfl, Or.inl rfl, by decide, by decide⟩ | exact ⟨rfl, Or.inr (Or.inl rfl), by decide, by decide⟩ | exact ⟨rfl, Or.inr (Or.inr rfl), by decide, by decide⟩
      with_unfolding_all exact ⟨rfl, rfl⟩
      apply q_nil
      with_unfolding_all exact rfl
      with_unfolding_all exact ⟨C_nears_in, hr.mono (by decide), rfl, passes_none, rfl, by decide⟩
      apply q_nil
      with_unfolding_all exact rfl
      with_unfolding_all exact ⟨ktupleB (K := K) rfl, Z.tuple, bb_tuple, rfl, rfl, by decide, by decide⟩
      apply q_cons
      apply q_ct
      apply q_cons
      apply q_fld (K := K)
      apply q_var (i := 0)
      with_unfolding_all first | exact ⟨rfl, Or.inl rfl, by decide, by decide⟩ | exact ⟨rfl, Or.inr (Or.inl rfl), by decide, by decide⟩ | exact ⟨rfl, Or.inr (Or.inr rfl), by decide, by decide⟩
      with_unfolding_all exact ⟨rfl, rfl⟩
      apply q_nil
      with_unfolding_all exact rfl
      with_unfolding_all exact ⟨ktupleB (K := K) rfl, Z.tuple, bb_tuple, rfl, rfl, by decide, by decide⟩
      apply q_cons
      apply q_var (i := 1)
      with_unfolding_all first | exact ⟨rfl, Or.inl rfl, by decide, by decide⟩ | exact ⟨rfl, Or.inr (Or.inl rfl), by decide, by decide⟩ | exact ⟨rfl, Or.inr (Or.inr rfl), by decide, by decide⟩
      apply q_nil
      with_unfolding_all exact rfl
      with_unfolding_all exact rfl
      with_unfolding_all exact rfl
      with_unfolding_all exact rfl
      with_unfolding_all exact rfl
    have sz2 : 2 ≤ sizeLine := by decide
    have sz5 : 5 ≤ sizeLine := by decide
    obtain ⟨dx, vf, vw, qs, r⟩ := hH.raw
    refine ⟨_, rfl, a, _, dx, _, [], _, rfl, r.obj, (by kernel_rfl), ⟨rfl, rfl, rfl⟩, ?_⟩
    unfold tNil
    dsimp only [List.append_nil]
    refine use_work hH g fun v1 H1 s1 hv1 => ?_
    dsimp only [gName]
    refine st_norm (σ' := [some (.ref a), some v1]) rfl ?_
    refine cut (fun σ C => ∃ v2, σ = [some (.ref a), some v2] ∧ Same H C ∧ WkP C v2 st) ?tl fun tl => ?hd
    case hd =>
      rcases hv1 with ⟨hw, rfl⟩ | ⟨w, x, p, q, D, ts, hw, hx, rfl, e, l, f, gg, hD⟩
      · exact ⟨_, rfl, rfl, _, rfl, iteND (fun z => absurd rfl z) (fun _ => next_ (tl _ _ ⟨.non, rfl, s1, .inl ⟨hw, rfl⟩⟩))⟩
      · refine ⟨_, rfl, rfl, _, rfl, iteND (fun _ => ?_) (fun z => nomatch z)⟩
        refine ⟨_, rfl, .inr (.inl ⟨p, _, _, _, rfl, rfl, SqT.of e, rfl, _, rfl, .inr (.inl ⟨p, _, _, _, rfl, rfl, SqT.of e, rfl, D, _, rfl, .inl ⟨SqL.of f, fun d C2 n2 => ⟨sz2, fun p3 C3 n3 => ?_⟩⟩⟩)⟩)⟩
        have s13 := n2.2.1.trans n3.2.1
        exact tl _ _ ⟨.ref p3, rfl, s1.trans s13, .inr ⟨w, x, p3, q, d, ts, hw, hx, rfl, n3.2.2, l.kt s13.kt, n3.2.1 _ _ n2.2.2, gg.kt s13.kt⟩⟩
    clear hv1 s1
    rintro σ C ⟨v2, rfl, sC, hw2⟩
    have r1 := r.keep sC
    refine ⟨_, rfl, a, _, dx, _, _, rfl, r1.obj, S.cl, S.a2, Hm.g2, _, rfl, a, _, dx, _, _, rfl, r1.obj, S.cl, S.a3, Hm.g3, _, rfl, a, _, dx, _, _, rfl, r1.obj, S.cl, S.a4, Hm.g4, st.rd, rfl, fun q1 C2 s2 hq1 e1 => ⟨q1, _, rfl, .inl ⟨SqL.of e1, fun t1 C3 n3 => ?_⟩⟩⟩
    have s3 := s2.trans n3.2.1
    have r3 := r1.keep s3
    refine ⟨_, rfl, a, _, dx, _, _, rfl, r3.obj, S.cl, S.a5, Hm.g5, pS, _, rfl, .inl ⟨SqL.of r3.lst, fun t2 C4 n4 => ⟨_, rfl, sz5, fun t C5 n5 => ?_⟩⟩⟩
    have s45 := n4.2.1.trans n5.2.1
    have s5 := s3.trans s45
    exact kk t C5 (sC.trans s5) ⟨_, _, _, _, _, n5.2.2, (r.far.kt sC.kt).kt s5.kt, s45 _ _ n3.2.2, n5.2.1 _ _ n4.2.2, (r.row.kt sC.kt).kt s5.kt, hw2.kt s5.kt⟩
theorem sc_twin : FnScope ["self", "other"] ["self"] (defScope sHome_twin) := ⟨rfl, rfl, rfl, by decide +kernel, rfl, by decide +kernel, by decide +kernel⟩
theorem ok_twin {f : Addr} {fd : FuncData} (F : FunD K "twin" "Home.twin" sHome_twin f fd .none) (Z : Bl mg) (S : HCl K cH) (K_Home : MkOk P w K mg base (CXE P w) 1 "Home" cH [] (spHInit cH)) :
    FnOk P w K mg base (CXE P w) 3 f fd ["self"] (spTwin cH) := by
  refine F.ok0 sc_twin (fun vs H Q E h => ?_) (fun cdv A outer s H vs Q E hr h => ?_)
  · obtain ⟨a, pS, st, rfl, _⟩ := h
    rfl
  · obtain ⟨a, pS, st, rfl, hH, kk⟩ := h
    have nd := sc_twin.nd
    apply body_of
    (conv => arg 2; whnf)
    with_reducible
      apply q_then
      apply q_set (i := 1)
      apply q_makeA
      apply q_cons
      apply q_fld (K := K)
      apply q_var (i := 0)
      with_unfolding_all first | exact ⟨rfl, Or.inl rfl, by decide, by decide⟩ | exact ⟨rfl, Or.inr (Or.inl rfl), by decide, by decide⟩ | exact ⟨rfl, Or.inr (Or.inr rfl), by decide, by decide⟩
      with_unfolding_all exact ⟨rfl, rfl⟩
      apply q_cons
      apply q_fld (K := K)
      apply q_var (i := 0)
      with_unfolding_all first | exact ⟨rfl, Or.inl rfl, by decide, by decide⟩ | exact ⟨rfl, Or.inr (Or.inl rfl), by decide, by decide⟩ | exact ⟨rfl, Or.inr (Or.inr rfl), by decide, by decide⟩
      with_unfolding_all exact ⟨rfl, rfl⟩
      apply q_cons
      apply q_fld (K := K)
      apply q_var (i := 0)
      with_unfolding_all first | exact ⟨rfl, Or.inl rfl, by decide, by decide⟩ | exact ⟨rfl, Or.inr (Or.inl rfl), by decide, by decide⟩ | exact ⟨rfl, Or.inr (Or.inr rfl), by decide, by decide⟩
      with_unfolding_all exact ⟨rfl, rfl⟩
      apply q_nil
      with_unfolding_all exact rfl
      with_unfolding_all exact rfl
      with_unfolding_all exact rfl
      with_unfolding_all exact ⟨K_Home, hr.mono (by decide), rfl, rfl, by decide⟩
      with_unfolding_all exact ⟨nd, rfl, Or.inl rfl, rfl, Or.inl rfl⟩
      apply q_then
      apply q_sfld (K := K)
      apply q_fld (K := K)
      apply q_var (i := 0)
      with_unfolding_all first | exact ⟨rfl, Or.inl rfl, by decide, by decide⟩ | exact ⟨rfl, Or.inr (Or.inl rfl), by decide, by decide⟩ | exact ⟨rfl, Or.inr (Or.inr rfl), by decide, by decide⟩
      with_unfolding_all exact ⟨rfl, rfl⟩
      apply q_var (i := 1)
      with_unfolding_all first | exact ⟨rfl, Or.inl rfl, by decide, by decide⟩ | exact ⟨rfl, Or.inr (Or.inl rfl), by decide, by decide⟩ | exact ⟨rfl, Or.inr (Or.inr rfl), by decide, by decide⟩
      with_unfolding_all exact ⟨rfl, rfl⟩
      apply q_then
      apply q_sfld (K := K)
      apply q_fld (K := K)
      apply q_var (i := 0)
      with_unfolding_all first | exact ⟨rfl, Or.inl rfl, by decide, by decide⟩ | exact ⟨rfl, Or.inr (Or.inl rfl), by decide, by decide⟩ | exact ⟨rfl, Or.inr (Or.inr rfl), by decide, by decide⟩
      with_unfolding_all exact ⟨rfl, rfl⟩
      apply q_var (i := 1)
      with_unfolding_all first | exact ⟨rfl, Or.inl rfl, by decide, by decide⟩ | exact ⟨rfl, Or.inr (Or.inl rfl), by decide, by decide⟩ | exact ⟨rfl, Or.inr (Or.inr rfl), by decide, by decide⟩
      with_unfolding_all exact ⟨rfl, rfl⟩
      apply q_then
      apply q_sfld (K := K)
      apply q_ct
      apply q_cons
      apply q_fld (K := K)
      apply q_var (i := 0)
      with_unfolding_all first | exact ⟨rfl, Or.inl rfl, by decide, by decide⟩ | exact ⟨rfl, Or.inr (Or.inl rfl), by decide, by decide⟩ | exact ⟨rfl, Or.inr (Or.inr rfl), by decide, by decide⟩
      with_unfolding_all exact ⟨rfl, rfl⟩
      apply q_nil
      with_unfolding_all exact rfl
      with_unfolding_all exact ⟨klistB (K := K) rfl, Z.list, bb_list, rfl, rfl, by decide, by decide⟩
      apply q_var (i := 1)
      with_unfolding_all first | exact ⟨rfl, Or.inl rfl, by decide, by decide⟩ | exact ⟨rfl, Or.inr (Or.inl rfl), by decide, by decide⟩ | exact ⟨rfl, Or.inr (Or.inr rfl), by decide, by decide⟩
      with_unfolding_all exact ⟨rfl, rfl⟩
      apply q_then
      apply q_sfld (K := K)
      apply q_fld (K := K)
      apply q_var (i := 0)
      with_unfolding_all first | exact ⟨rfl, Or.inl rfl, by decide, by decide⟩ | exact ⟨rfl, Or.inr (Or.inl rfl), by decide, by decide⟩ | exact ⟨rfl, Or.inr (Or.inr rfl), by decide, by decide⟩
      with_unfolding_all exact ⟨rfl, rfl⟩
      apply q_var (i := 1)
      with_unfolding_all first | exact ⟨rfl, Or.inl rfl, by decide, by decide⟩ | exact ⟨rfl, Or.inr (Or.inl rfl), by decide, by decide⟩ | exact ⟨rfl, Or.inr (Or.inr rfl), by decide, by decide⟩
      with_unfolding_all exact ⟨rfl, rfl⟩
      apply q_then
      apply q_sfld (K := K)
      apply q_fld (K := K)
      apply q_var (i := 0)
      with_unfolding_all first | exact ⟨rfl, Or.inl rfl, by decide, by decide⟩ | exact ⟨rfl, Or.inr (Or.inl rfl), by decide, by decide⟩ | exact ⟨rfl, Or.inr (Or.inr rfl), by decide, by decide⟩
      with_unfolding_all exact ⟨rfl, rfl⟩
      apply q_var (i := 1)
      with_unfolding_all first | exact ⟨rfl, Or.inl rfl, by decide, by decide⟩ | exact ⟨rfl, Or.inr (Or.inl rfl), by decide, by decide⟩ | exact ⟨rfl, Or.inr (Or.inr rfl), by decide, by decide⟩
      with_unfolding_all exact ⟨rfl, rfl⟩
      apply q_then
      apply q_sfld (K := K)
      apply q_fld (K := K)
      apply q_var (i := 0)
      with_unfolding_all first | exact ⟨rfl, Or.inl rfl, by decide, by decide⟩ | exact ⟨rfl, Or.inr (Or.inl rfl), by decide, by decide⟩ | exact ⟨rfl, Or.inr (Or.inr rfl), by decide, by decide⟩
      with_unfolding_all exact ⟨rfl, rfl⟩
      apply q_var (i := 1)
      with_unfolding_all first | exact ⟨rfl, Or.inl rfl, by decide, by decide⟩ | exact ⟨rfl, Or.inr (Or.inl rfl), by decide, by decide⟩ | exact ⟨rfl, Or.inr (Or.inr rfl), by decide, by decide⟩
      with_unfolding_all exact ⟨rfl, rfl⟩
      apply q_last
      apply q_ret
      apply q_var (i := 1)
      with_unfolding_all first | exact ⟨rfl, Or.inl rfl, by decide, by decide⟩ | exact ⟨rfl, Or.inr (Or.inl rfl), by decide, by decide⟩ | exact ⟨rfl, Or.inr (Or.inr rfl), by decide, by decide⟩
    obtain ⟨dx, vf, vw, qs, r⟩ := hH.raw
    refine ⟨_, rfl, a, _, dx, _, _, rfl, r.obj, S.cl, S.a0, Hm.g0, _, rfl, a, _, dx, _, _, rfl, r.obj, S.cl, S.a1, Hm.g1, _, rfl, a, _, dx, _, _, rfl, r.obj, S.cl, S.a2, Hm.g2, fun o do1 H1 nI => ⟨o, do1, st.line, st.n, vf, st.far, rfl, hH.ok.n64, nI.2.2.2.2.1, r.far.kt nI.2.2.2.1.kt, fun pO H2 sb2 hpO hh => ⟨rfl, ?_⟩⟩⟩
    dsimp only [gName]
    refine st_norm (σ' := [some (.ref a), some (.ref o)]) rfl ?_
    have ho : H o = none := nI.1
    have s02 : Same H H2 := fun c o' e => sb2 c o' (nI.2.2.2.1 c o' e) fun z => by
      obtain rfl := List.mem_singleton.mp z
      rw [ho] at e
      cases e
    have ao : a ≠ o := fun z => by
      have := r.obj
      rw [z, ho] at this
      cases this
    have So : pS ≠ o := fun z => by
      have := r.lst
      rw [z, ho] at this
      cases this
    obtain ⟨do2, vf2, vw2, qs2, ro⟩ := hh.raw
    have r2 := r.keep s02
    have w0 : vw2 = .non := ro.wk
    have q0 : qs2 = [] := List.length_eq_zero_iff.mp (by rw [ro.row.length]; rfl)
    subst w0 q0
    refine ⟨_, rfl, a, _, dx, _, _, rfl, r2.obj, S.cl, S.a3, Hm.g3, _, rfl, o, _, do2, _, rfl, ro.obj, S.cl, S.a3, RawH.len, ?_⟩
    rw [Hm.p3]
    have ro3 := ro.put ⟨st.line, st.n, st.far, st.writer, noneS, [], none, none, noneS⟩ rfl ro.far ro.wk
    have s03 : Same H (L2.upd H2 o (.ins cH do2 (Hm.fs ⟨st.line, st.n, st.far, st.writer, noneS, [], none, none, noneS⟩ vf2 pO .non))) := same_new s02 ho
    generalize L2.upd H2 o (.ins cH do2 (Hm.fs ⟨st.line, st.n, st.far, st.writer, noneS, [], none, none, noneS⟩ vf2 pO .non)) = H3 at ro3 s03 ⊢
    have r3 := r.keep s03
    refine ⟨_, rfl, a, _, dx, _, _, rfl, r3.obj, S.cl, S.a4, Hm.g4, _, rfl, o, _, do2, _, rfl, ro3.obj, S.cl, S.a4, RawH.len, ?_⟩
    rw [Hm.p4]
    have ro4 := ro3.put ⟨st.line, st.n, st.far, st.writer, st.rd, [], none, none, noneS⟩ rfl ro3.far ro3.wk
    have s04 : Same H (L2.upd H3 o (.ins cH do2 (Hm.fs ⟨st.line, st.n, st.far, st.writer, st.rd, [], none, none, noneS⟩ vf2 pO .non))) := same_new s03 ho
    generalize L2.upd H3 o (.ins cH do2 (Hm.fs ⟨st.line, st.n, st.far, st.writer, st.rd, [], none, none, noneS⟩ vf2 pO .non)) = H4 at ro4 s04 ⊢
    have r4 := r.keep s04
    refine ⟨_, rfl, a, _, dx, _, _, rfl, r4.obj, S.cl, S.a5, Hm.g5, pS, _, rfl, .inl (SqL.of r4.lst), fun pN H5 n5 => ⟨_, rfl, o, _, do2, _, rfl, n5.2.1 _ _ ro4.obj, S.cl, S.a5, RawH.len, ?_⟩⟩
    rw [show putF "standing" (V.ref pN) (Hm.fs ⟨st.line, st.n, st.far, st.writer, st.rd, [], none, none, noneS⟩ vf2 pO .non) = Hm.fs ⟨st.line, st.n, st.far, st.writer, st.rd, st.row, none, none, noneS⟩ vf2 pN .non by kernel_rfl]
    have No : pN ≠ o := fun z => by
      have := ro4.obj
      rw [← z, n5.1] at this
      cases this
    have k56 : KTup H5 (L2.upd H5 o (.ins cH do2 (Hm.fs ⟨st.line, st.n, st.far, st.writer, st.rd, st.row, none, none, noneS⟩ vf2 pN .non))) := kt_updI (n5.2.1 _ _ ro4.obj)
    have r5 := r4.keep n5.2.1
    have ro6 : RawH cH (L2.upd H5 o (.ins cH do2 (Hm.fs ⟨st.line, st.n, st.far, st.writer, st.rd, st.row, none, none, noneS⟩ vf2 pN .non))) o pN do2 ⟨st.line, st.n, st.far, st.writer, st.rd, st.row, none, none, noneS⟩ vf2 .non qs := ⟨upd_same, (ro4.far.kt n5.2.1.kt).kt k56, rfl, (upd_ne No).trans n5.2.2, r5.row.kt k56⟩
    have hN : H pN = none := s04.free n5.1
    have s06 : Same H (L2.upd H5 o (.ins cH do2 (Hm.fs ⟨st.line, st.n, st.far, st.writer, st.rd, st.row, none, none, noneS⟩ vf2 pN .non))) := same_new (s04.trans n5.2.1) ho
    generalize L2.upd H5 o (.ins cH do2 (Hm.fs ⟨st.line, st.n, st.far, st.writer, st.rd, st.row, none, none, noneS⟩ vf2 pN .non)) = H6 at k56 ro6 s06 ⊢
    have r6 := r.keep s06
    refine ⟨_, rfl, a, _, dx, _, _, rfl, r6.obj, S.cl, S.a6, Hm.g6, _, rfl, o, _, do2, _, rfl, ro6.obj, S.cl, S.a6, RawH.len, ?_⟩
    rw [Hm.p6]
    have ro7 := ro6.put (vw' := vw) ⟨st.line, st.n, st.far, st.writer, st.rd, st.row, st.work, none, noneS⟩ rfl ro6.far r6.wk
    have s07 : Same H (L2.upd H6 o (.ins cH do2 (Hm.fs ⟨st.line, st.n, st.far, st.writer, st.rd, st.row, st.work, none, noneS⟩ vf2 pN vw))) := same_new s06 ho
    rw [show Hm.fs ⟨st.line, st.n, st.far, st.writer, st.rd, st.row, none, none, noneS⟩ vf2 pN vw = Hm.fs ⟨st.line, st.n, st.far, st.writer, st.rd, st.row, st.work, none, noneS⟩ vf2 pN vw from rfl]
    generalize L2.upd H6 o (.ins cH do2 (Hm.fs ⟨st.line, st.n, st.far, st.writer, st.rd, st.row, st.work, none, noneS⟩ vf2 pN vw)) = H7 at ro7 s07 ⊢
    have r7 := r.keep s07
    refine ⟨_, rfl, a, _, dx, _, _, rfl, r7.obj, S.cl, S.a7, Hm.g7, _, rfl, o, _, do2, _, rfl, ro7.obj, S.cl, S.a7, RawH.len, ?_⟩
    rw [Hm.p7]
    have ro8 := ro7.put ⟨st.line, st.n, st.far, st.writer, st.rd, st.row, st.work, st.aw, noneS⟩ rfl ro7.far ro7.wk
    have s08 : Same H (L2.upd H7 o (.ins cH do2 (Hm.fs ⟨st.line, st.n, st.far, st.writer, st.rd, st.row, st.work, st.aw, noneS⟩ vf2 pN vw))) := same_new s07 ho
    generalize L2.upd H7 o (.ins cH do2 (Hm.fs ⟨st.line, st.n, st.far, st.writer, st.rd, st.row, st.work, st.aw, noneS⟩ vf2 pN vw)) = H8 at ro8 s08 ⊢
    have r8 := r.keep s08
    refine ⟨_, rfl, a, _, dx, _, _, rfl, r8.obj, S.cl, S.a8, Hm.g8, _, rfl, o, _, do2, _, rfl, ro8.obj, S.cl, S.a8, RawH.len, ?_⟩
    rw [Hm.p8]
    have ro9 := ro8.put st rfl ro8.far ro8.wk
    exact ⟨_, rfl, kk o pN _ (same_new s08 ho) ho hN (ro9.at hH.ok)⟩
theorem scSeen : FnScope ["_law_home", "_law_book", "_law_row", "_law_work", "_law_told"] ["_law_home"] (defScope sSeen) := ⟨rfl, rfl, rfl, by decide +kernel, rfl, by decide +kernel, by decide +kernel⟩
theorem ok_Seen {f : Addr} {fd : FuncData} (F : Fun K "_law_seen" "_law_seen" sSeen f fd) (Z : Bl mg)  (M_book : MS P w K mg base 2 (RR cH (spBook cH)) "book") (M_row : MS P w K mg base 1 (RR cH (spRowH cH)) "row") (M_work : MS P w K mg base 2 (RR cH (spWork cH)) "work") (M_far : MS P w K mg base 1 (RR cH (spFar cH)) "far") :
    FnOk P w K mg base CX0 3 f fd ["_law_home"] (spSeen cH) := by
  refine F.ok scSeen (fun vs H Q E h => ?_) (fun cdv A outer s H vs Q E hr h => ?_)
  · obtain ⟨a, pS, st, ln, n, rfl, _⟩ := h
    rfl
  · obtain ⟨a, pS, st, ln, n, rfl, hH, g, hrl, kk⟩ := h
    have nd := scSeen.nd
    apply body_of
    (conv => arg 2; whnf)
    with_reducible
      apply q_then
      apply q_set (i := 1)
      apply q_meth0
      apply q_var (i := 0)
      with_unfolding_all first | exact ⟨rfl, Or.inl rfl, by decide, by decide⟩ | exact ⟨rfl, Or.inr (Or.inl rfl), by decide, by decide⟩ | exact ⟨rfl, Or.inr (Or.inr rfl), by decide, by decide⟩
      with_unfolding_all exact ⟨M_book, hr.mono (by decide), passes_none, rfl⟩
      with_unfolding_all exact ⟨nd, rfl, Or.inl rfl, rfl, Or.inl rfl⟩
      apply q_then
      apply q_set (i := 2)
      apply q_meth0
      apply q_var (i := 0)
      with_unfolding_all first | exact ⟨rfl, Or.inl rfl, by decide, by decide⟩ | exact ⟨rfl, Or.inr (Or.inl rfl), by decide, by decide⟩ | exact ⟨rfl, Or.inr (Or.inr rfl), by decide, by decide⟩
      with_unfolding_all exact ⟨M_row, hr.mono (by decide), passes_none, rfl⟩
      with_unfolding_all exact ⟨nd, rfl, Or.inl rfl, rfl, Or.inl rfl⟩
      apply q_then
      apply q_set (i := 3)
      apply q_meth0
      apply q_var (i := 0)
      with_unfolding_all first | exact ⟨rfl, Or.inl rfl, by decide, by decide⟩ | exact ⟨rfl, Or.inr (Or.inl rfl), by decide, by decide⟩ | exact ⟨rfl, Or.inr (Or.inr rfl), by decide, by decide⟩
      with_unfolding_all exact ⟨M_work, hr.mono (by decide), passes_none, rfl⟩
      with_unfolding_all exact ⟨nd, rfl, Or.inl rfl, rfl, Or.inl rfl⟩
      apply q_then
      apply q_set (i := 4)
      apply q_tupA
      apply q_cons
      apply q_meth0
      apply q_var (i := 0)
      with_unfolding_all first | exact ⟨rfl, Or.inl rfl, by decide, by decide⟩ | exact ⟨rfl, Or.inr (Or.inl rfl), by decide, by decide⟩ | exact ⟨rfl, Or.inr (Or.inr rfl), by decide, by decide⟩
      with_unfolding_all exact ⟨M_far, hr.mono (by decide), passes_none, rfl⟩
      apply q_cons
      apply q_ix
      apply q_var (i := 1)
      with_unfolding_all first | exact ⟨rfl, Or.inl rfl, by decide, by decide⟩ | exact ⟨rfl, Or.inr (Or.inl rfl), by decide, by decide⟩ | exact ⟨rfl, Or.inr (Or.inr rfl), by decide, by decide⟩
      apply q_int
      with_unfolding_all exact ⟨kix (K := K) rfl, fun _ _ => rfl⟩
      apply q_cons
      apply q_ct
      apply q_cons
      apply q_ix
      apply q_var (i := 1)
      with_unfolding_all first | exact ⟨rfl, Or.inl rfl, by decide, by decide⟩ | exact ⟨rfl, Or.inr (Or.inl rfl), by decide, by decide⟩ | exact ⟨rfl, Or.inr (Or.inr rfl), by decide, by decide⟩
      apply q_int
      with_unfolding_all exact ⟨kix (K := K) rfl, fun _ _ => rfl⟩
      apply q_nil
      with_unfolding_all exact rfl
      with_unfolding_all exact ⟨ktupleB (K := K) rfl, Z.tuple, bb_tuple, rfl, rfl, by decide, by decide⟩
      apply q_cons
      apply q_ct
      apply q_cons
      apply q_var (i := 2)
      with_unfolding_all first | exact ⟨rfl, Or.inl rfl, by decide, by decide⟩ | exact ⟨rfl, Or.inr (Or.inl rfl), by decide, by decide⟩ | exact ⟨rfl, Or.inr (Or.inr rfl), by decide, by decide⟩
      apply q_nil
      with_unfolding_all exact rfl
      with_unfolding_all exact ⟨ktupleB (K := K) rfl, Z.tuple, bb_tuple, rfl, rfl, by decide, by decide⟩
      apply q_cons
      apply q_non
      apply q_nil
      with_unfolding_all exact rfl
      with_unfolding_all exact rfl
      with_unfolding_all exact rfl
      with_unfolding_all exact rfl
      with_unfolding_all exact rfl
      with_unfolding_all exact ⟨nd, rfl, Or.inl rfl, rfl, Or.inl rfl⟩
      apply q_then
      apply q_if
      apply q_tcmp
      apply q_var (i := 3)
      with_unfolding_all first | exact ⟨rfl, Or.inl rfl, by decide, by decide⟩ | exact ⟨rfl, Or.inr (Or.inl rfl), by decide, by decide⟩ | exact ⟨rfl, Or.inr (Or.inr rfl), by decide, by decide⟩
      apply q_non
      with_unfolding_all exact ⟨op_notN, nomark _⟩
      apply q_then
      apply q_set (i := 4)
      apply q_op
      apply q_slice (K := K)
      apply q_var (i := 4)
      with_unfolding_all first | exact ⟨rfl, Or.inl rfl, by decide, by decide⟩ | exact ⟨rfl, Or.inr (Or.inl rfl), by decide, by decide⟩ | exact ⟨rfl, Or.inr (Or.inr rfl), by decide, by decide⟩
      apply q_onone
      apply q_osome
      apply q_int
      with_unfolding_all exact rfl
      apply q_tupA
      apply q_cons
      apply q_tupA
      apply q_cons
      apply q_ix
      apply q_var (i := 3)
      with_unfolding_all first | exact ⟨rfl, Or.inl rfl, by decide, by decide⟩ | exact ⟨rfl, Or.inr (Or.inl rfl), by decide, by decide⟩ | exact ⟨rfl, Or.inr (Or.inr rfl), by decide, by decide⟩
      apply q_int
      with_unfolding_all exact ⟨kix (K := K) rfl, fun _ _ => rfl⟩
      apply q_cons
      apply q_ct
      apply q_cons
      apply q_ix
      apply q_var (i := 3)
      with_unfolding_all first | exact ⟨rfl, Or.inl rfl, by decide, by decide⟩ | exact ⟨rfl, Or.inr (Or.inl rfl), by decide, by decide⟩ | exact ⟨rfl, Or.inr (Or.inr rfl), by decide, by decide⟩
      apply q_int
      with_unfolding_all exact ⟨kix (K := K) rfl, fun _ _ => rfl⟩
      apply q_nil
      with_unfolding_all exact rfl
      with_unfolding_all exact ⟨ktupleB (K := K) rfl, Z.tuple, bb_tuple, rfl, rfl, by decide, by decide⟩
      apply q_nil
      with_unfolding_all exact rfl
      with_unfolding_all exact rfl
      apply q_nil
      with_unfolding_all exact rfl
      with_unfolding_all exact kaddB (K := K) rfl
      with_unfolding_all exact ⟨nd, rfl, Or.inl rfl, rfl, Or.inl rfl⟩
      apply q_last
      apply q_expr
      apply q_bm (K := K)
      apply q_ix
      apply q_var (i := 3)
      with_unfolding_all first | exact ⟨rfl, Or.inl rfl, by decide, by decide⟩ | exact ⟨rfl, Or.inr (Or.inl rfl), by decide, by decide⟩ | exact ⟨rfl, Or.inr (Or.inr rfl), by decide, by decide⟩
      apply q_int
      with_unfolding_all exact ⟨kix (K := K) rfl, fun _ _ => rfl⟩
      apply q_cons
      apply q_tupA
      apply q_cons
      apply q_str
      apply q_cons
      apply q_int
      apply q_nil
      with_unfolding_all exact rfl
      with_unfolding_all exact rfl
      apply q_nil
      with_unfolding_all exact rfl
      with_unfolding_all exact ⟨rfl, mt_append, PySem.F.plainAttrs_list, PySem.F.slot_list_append, PySem.F.type_list_append, rfl, rfl, rfl, rfl⟩
      with_unfolding_all exact rfl
      apply q_end
      apply q_then
      apply q_expr
      apply q_bm (K := K)
      apply q_var (i := 2)
      with_unfolding_all first | exact ⟨rfl, Or.inl rfl, by decide, by decide⟩ | exact ⟨rfl, Or.inr (Or.inl rfl), by decide, by decide⟩ | exact ⟨rfl, Or.inr (Or.inr rfl), by decide, by decide⟩
      apply q_cons
      apply q_int
      apply q_nil
      with_unfolding_all exact rfl
      with_unfolding_all exact ⟨rfl, mt_append, PySem.F.plainAttrs_list, PySem.F.slot_list_append, PySem.F.type_list_append, rfl, rfl, rfl, rfl⟩
      with_unfolding_all exact rfl
      apply q_then
      apply q_expr
      apply q_bm (K := K)
      apply q_ix
      apply q_var (i := 1)
      with_unfolding_all first | exact ⟨rfl, Or.inl rfl, by decide, by decide⟩ | exact ⟨rfl, Or.inr (Or.inl rfl), by decide, by decide⟩ | exact ⟨rfl, Or.inr (Or.inr rfl), by decide, by decide⟩
      apply q_int
      with_unfolding_all exact ⟨kix (K := K) rfl, fun _ _ => rfl⟩
      apply q_cons
      apply q_int
      apply q_nil
      with_unfolding_all exact rfl
      with_unfolding_all exact ⟨rfl, mt_append, PySem.F.plainAttrs_list, PySem.F.slot_list_append, PySem.F.type_list_append, rfl, rfl, rfl, rfl⟩
      with_unfolding_all exact rfl
      apply q_last
      apply q_ret
      apply q_var (i := 4)
      with_unfolding_all first | exact ⟨rfl, Or.inl rfl, by decide, by decide⟩ | exact ⟨rfl, Or.inr (Or.inl rfl), by decide, by decide⟩ | exact ⟨rfl, Or.inr (Or.inr rfl), by decide, by decide⟩
    have sz1 : 1 ≤ sizeLine := by decide
    have sz2 : 2 ≤ sizeLine := by decide
    have sz5 : 5 ≤ sizeLine := by decide
    obtain ⟨dx, vf, vw, qs, r⟩ := hH.raw
    refine ⟨_, rfl, a, _, dx, _, [], _, rfl, r.obj, (by kernel_rfl), ⟨rfl, rfl, rfl⟩, a, pS, st, rfl, hH, fun p1 q1 H1 s1 hp1 hq1 e1 f1 => ?_⟩
    dsimp only [gName]
    have h1 := hH.keep s1
    have r1 := r.keep s1
    refine ⟨_, rfl, a, _, dx, _, [], _, rfl, r1.obj, (by kernel_rfl), ⟨rfl, rfl, rfl⟩, a, pS, st, rfl, h1, fun p2 qs2 H2 n2 l2 => ?_⟩
    dsimp only [gName]
    have s2 := s1.trans n2.2.1
    have h2 := hH.keep s2
    have r2 := r.keep s2
    refine ⟨_, rfl, a, _, dx, _, [], _, rfl, r2.obj, (by kernel_rfl), ⟨rfl, rfl, rfl⟩, ?_⟩
    unfold tNil
    dsimp only [List.append_nil]
    refine use_work h2 g fun v3 H3 s3 hv3 => ?_
    dsimp only [gName]
    refine st_norm (σ' := [some (.ref a), some (.ref p1), some (.ref p2), some v3, none]) rfl ?_
    have s23 := s2.trans s3
    have h3 := hH.keep s23
    have r3 := r.keep s23
    have e13 := (n2.2.1.trans s3) _ _ e1
    have f13 := (n2.2.1.trans s3) _ _ f1
    have e23 := s3 _ _ n2.2.2
    refine ⟨_, rfl, a, _, dx, _, [], _, rfl, r3.obj, (by kernel_rfl), ⟨rfl, rfl, rfl⟩, a, pS, st, rfl, h3, fun v4 hv4 => ⟨_, rfl, .inr (.inl ⟨p1, _, _, _, rfl, rfl, SqT.of e13, rfl, _, rfl, .inr (.inl ⟨p1, _, _, _, rfl, rfl, SqT.of e13, rfl, q1, _, rfl, .inl ⟨SqL.of f13, fun t1 C1 m1 => ⟨_, rfl, p2, _, rfl, .inl ⟨SqL.of (m1.2.1 _ _ e23), fun t2 C2 m2 => ⟨sz5, fun t C3 m3 => ?_⟩⟩⟩⟩⟩)⟩)⟩⟩
    dsimp only [gName]
    have m23 := m2.2.1.trans m3.2.1
    have m13 := m1.2.1.trans m23
    have sA := s23.trans m13
    have hf4 := hv4.kt m13.kt
    have eb := m3.2.1 _ _ m2.2.2
    have ea := m23 _ _ m1.2.2
    have lb := (l2.kt s3.kt).kt m13.kt
    have hp2 : H p2 = none := s1.free n2.1
    refine st_norm (σ' := [some (.ref a), some (.ref p1), some (.ref p2), some v3, some (.ref t)]) rfl ?_
    refine cut (fun σ C => ∃ t', σ = [some (.ref a), some (.ref p1), some (.ref p2), some v3, some (.ref t')] ∧ Same H C ∧ PicAt C t' st ∧ C p1 = some (.tup [oI st.writer, .ref q1]) ∧ (∃ xs, C q1 = some (.lst xs) ∧ xs.length ≤ 1000) ∧ (∃ xs, C p2 = some (.lst xs) ∧ xs.length ≤ 1000)) ?tl fun tl => ?hd
    case hd =>
      have lq : (natV (inS st.rd)).length ≤ 1000 := by
        have := inS_len st.rd
        unfold natV
        rw [List.length_map]
        omega
      have lp : (qs2.map V.ref).length ≤ 1000 := by rw [List.length_map, l2.length]; omega
      rcases hv3 with ⟨hw, rfl⟩ | ⟨w, x, p, q, D, ts, hw, hx, rfl, e, l, f, gg, hD⟩
      · exact ⟨_, rfl, rfl, _, rfl, iteND (fun z => absurd rfl z) (fun _ => next_ (tl _ _ ⟨t, rfl, sA, ⟨_, _, _, _, _, m3.2.2, hf4, ea, eb, lb, .inl ⟨hw, rfl⟩⟩, m13 _ _ e13, ⟨_, m13 _ _ f13, lq⟩, ⟨_, m13 _ _ e23, lp⟩⟩))⟩
      · refine ⟨_, rfl, rfl, _, rfl, iteND (fun _ => ?_) (fun z => nomatch z)⟩
        have eA := m13 _ _ e
        have fA := m13 _ _ f
        refine ⟨_, rfl, 4, rfl, .inr ⟨t, _, rfl, SqT.of m3.2.2, (by rintro ⟨_, z⟩; exact absurd (show HT.sIx 5 5 (some 4) = 5 from z) (by decide)), fun pc hpc => ?_⟩⟩
        have n4 := New.mk' (o := .tup (cutV [v4, oI st.writer, .ref t1, .ref t2, .non] none (some 4))) hpc
        replace n4 : New C3 pc (.tup [v4, oI st.writer, .ref t1, .ref t2]) _ := n4
        generalize L2.upd C3 pc (.tup (cutV [v4, oI st.writer, .ref t1, .ref t2, .non] none (some 4))) = C4 at n4 ⊢
        refine ⟨_, rfl, .inr (.inl ⟨p, _, _, _, rfl, rfl, SqT.of (n4.2.1 _ _ eA), rfl, _, rfl, .inr (.inl ⟨p, _, _, _, rfl, rfl, SqT.of (n4.2.1 _ _ eA), rfl, D, _, rfl, .inl ⟨SqL.of (n4.2.1 _ _ fA), fun d C5 n5 => ⟨sz2, fun pp C6 n6 => ⟨sz1, fun pq C7 n7 => ?_⟩⟩⟩⟩)⟩)⟩
        refine .inr (.inl ⟨pc, pq, _, _, rfl, rfl, (n5.2.1.trans (n6.2.1.trans n7.2.1)) _ _ n4.2.2, n7.2.2, (by show 5 ≤ sizeLine; decide), fun t' C8 s8 e8 => ?_⟩)
        dsimp only [gName]
        have s78 := n7.2.1.trans s8
        have s68 := n6.2.1.trans s78
        have s58 := n5.2.1.trans s68
        have s48 := n4.2.1.trans s58
        refine ⟨_, rfl, .inr (.inl ⟨p, _, _, _, rfl, rfl, SqT.of (s48 _ _ eA), rfl, .inl ⟨rfl, _, SqL.of (s48 _ _ fA)⟩, sz2, fun tt C9 n9 => ⟨D, _, _, rfl, rfl, n9.2.1 _ _ (s48 _ _ fA), ?_, ?_⟩⟩)⟩
        · rw [List.length_map, gg.length]
          exact Nat.lt_of_le_of_lt (inS_len _) (by decide)
        have s49 := s48.trans n9.2.1
        have k9 : KTup C9 (L2.upd C9 D (.lst (ts.map V.ref ++ [V.ref tt]))) := kt_updL (s49 _ _ fA)
        have kA := s49.kt.trans k9
        have q1D : q1 ≠ D := fun z => by rw [← z] at hD; rw [(n2.2.1) _ _ f1] at hD; cases hD
        have p2D : p2 ≠ D := fun z => by rw [← z, n2.2.2] at hD; cases hD
        have hDH : H D = none := s2.free hD
        refine tl _ _ ⟨t', rfl, same_new (sA.trans s49) hDH, ⟨_, _, _, _, qs2, k9 _ _ (n9.2.1 _ _ e8), hf4.kt kA, kA _ _ ea, kA _ _ eb, lb.kt kA, .inr ⟨w, x, pp, q, d, ts, hw, hx, rfl, k9 _ _ ((s78.trans n9.2.1) _ _ n6.2.2), (l.kt m13.kt).kt kA, k9 _ _ ((s68.trans n9.2.1) _ _ n5.2.2), (gg.kt m13.kt).kt kA⟩⟩, kA _ _ (m13 _ _ e13), ⟨_, (upd_ne q1D).trans (s49 _ _ (m13 _ _ f13)), lq⟩, ⟨_, (upd_ne p2D).trans (s49 _ _ (m13 _ _ e23)), lp⟩⟩
    rintro σ C ⟨t', rfl, sC, pic, e1C, ⟨xs1, f1C, lx1⟩, ⟨xs2, e2C, lx2⟩⟩
    refine ⟨_, rfl, .inl ⟨rfl, _, SqL.of e2C⟩, p2, _, _, rfl, rfl, e2C, Nat.lt_of_le_of_lt lx2 (by decide), ?_⟩
    have k1 : KTup C (L2.upd C p2 (.lst (xs2 ++ [V.int 0]))) := kt_updL e2C
    have q12 : q1 ≠ p2 := fun z => by
      have := n2.1
      rw [← z, f1] at this
      cases this
    have f1C' : L2.upd C p2 (.lst (xs2 ++ [V.int 0])) q1 = _ := (upd_ne q12).trans f1C
    refine ⟨_, rfl, .inr (.inl ⟨p1, _, _, _, rfl, rfl, SqT.of (k1 _ _ e1C), rfl, .inl ⟨rfl, _, SqL.of f1C'⟩, q1, _, _, rfl, rfl, f1C', Nat.lt_of_le_of_lt lx1 (by decide), ?_⟩)⟩
    exact ⟨_, rfl, kk t' _ (same_new (same_new sC hp2) hq1) (pic.kt (k1.trans (kt_updL f1C')))⟩
end
end K36

set_option Elab.async false
set_option linter.all false
set_option maxRecDepth 100000
set_option maxHeartbeats 1000000
namespace K36
open PySem L2
section
variable {P : Program} {w : World} {K : PySem.W.Frag} {mg : Str → Option Value} {base : Heap} {cH aA cU : Addr}

theorem Pairs.at {C : Hp} {x : Str} : ∀ {ts : List Addr} {ks : List Nat} {i : Nat} {v : V}, Pairs C x ts ks → (ts.map V.ref)[i]? = some v → ∃ t j, v = .ref t ∧ ks[i]? = some j ∧ C t = some (.tup [.str x, .int ((j : Nat) : Int)])
  | _, _, _, _, .nil, h => by simp at h
  | _, _, 0, _, .cons a b, h => by
    simp at h
    exact ⟨_, _, h.symm, rfl, a⟩
  | _, _, i + 1, _, .cons a b, h => by
    simp at h
    obtain ⟨t, j, h1, h2, h3⟩ := Pairs.at (i := i) b (by simpa using h)
    exact ⟨t, j, h1, by simpa using h2, h3⟩
theorem scan_drop {k j i : Nat} {c : Int} {ks : List Nat} (h : ks[i]? = some j) : scan k c (ks.drop i) = if j = k ∨ c % 3 = 0 then some j else scan k c (ks.drop (i + 1)) := by
  obtain ⟨h1, h2⟩ := List.getElem?_eq_some_iff.mp h
  rw [List.drop_eq_getElem_cons h1, h2]
  rfl
theorem letB_some {st : Hm} {w : Ltr} {x : Str} {ln c : Int} {k j : Nat} (h : scan k c (inS st.an) = some j) : letB st w x ln k c = some ⟨x, ln, ((j : Nat) : Int), some [c % 10 ^ (60 : Int).toNat]⟩ := by
  unfold letB
  rw [h]
theorem letB_none {st : Hm} {w : Ltr} {x : Str} {ln c : Int} {k : Nat} (h : scan k c (inS st.an) = none) : letB st w x ln k c = if w.near = ((k : Nat) : Int) then none else letA st ln k c := by
  unfold letB
  rw [h]
theorem wob {x y : Str} {c : Int} : atI [V.str x, V.str y] (c / 3 % 2) = some (.str (if c / 3 % 2 = 0 then x else y)) := by
  rcases (by omega : c / 3 % 2 = 0 ∨ c / 3 % 2 = 1) with e | e <;> rw [e]
  · rw [if_pos rfl]
    exact at_nat (j := 0) rfl rfl
  · rw [if_neg (by decide)]
    exact at_nat (j := 1) rfl rfl
theorem oI_int {o : Option Nat} {k : Nat} : oI o = V.int ((k : Nat) : Int) ↔ o = some k := by
  cases o with
  | none => exact ⟨(fun z => nomatch z), fun z => nomatch z⟩
  | some j =>
    show V.int ((j : Nat) : Int) = V.int ((k : Nat) : Int) ↔ _
    constructor
    · intro z
      injection z with z
      have : j = k := by omega
      rw [this]
    · intro z
      rw [Option.some.inj z]
theorem scWhole : FnScope ["_law_home", "_law_told", "_law_found", "_law_k"] ["_law_home"] (defScope sWhole) := ⟨rfl, rfl, rfl, by decide +kernel, rfl, by decide +kernel, by decide +kernel⟩
theorem ok_Whole {f : Addr} {fd : FuncData} (F : Fun K "_law_whole_seen" "_law_whole_seen" sWhole f fd) (Z : Bl mg) (C__law_seen : CalD P w K mg base (CXE P w) 3 "_law_seen" ["_law_home"] [] (spSeen cH)) (M_picture : MS P w K mg base 3 (RR cH (spPicture cH)) "picture") :
    FnOk P w K mg base CX0 4 f fd ["_law_home"] (spWhole cH) := by
  refine F.ok scWhole (fun vs H Q E h => ?_) (fun cdv A outer s H vs Q E hr h => ?_)
  · obtain ⟨a, pS, st, ln, n, rfl, _⟩ := h
    rfl
  · obtain ⟨a, pS, st, ln, n, rfl, hH, g, hrl, kk⟩ := h
    have nd := scWhole.nd
    apply body_of
    (conv => arg 2; whnf)
    with_reducible
      apply q_then
      apply q_set (i := 1)
      apply q_call
      apply q_cons
      apply q_var (i := 0)
      with_unfolding_all first | exact ⟨rfl, Or.inl rfl, by decide, by decide⟩ | exact ⟨rfl, Or.inr (Or.inl rfl), by decide, by decide⟩ | exact ⟨rfl, Or.inr (Or.inr rfl), by decide, by decide⟩
      apply q_nil
      with_unfolding_all exact rfl
      with_unfolding_all exact ⟨C__law_seen, hr.mono (by decide), rfl, passes_none, rfl, by decide⟩
      with_unfolding_all exact ⟨nd, rfl, Or.inl rfl, rfl, Or.inl rfl⟩
      apply q_then
      apply q_set (i := 2)
      apply q_meth0
      apply q_var (i := 0)
      with_unfolding_all first | exact ⟨rfl, Or.inl rfl, by decide, by decide⟩ | exact ⟨rfl, Or.inr (Or.inl rfl), by decide, by decide⟩ | exact ⟨rfl, Or.inr (Or.inr rfl), by decide, by decide⟩
      with_unfolding_all exact ⟨M_picture, hr.mono (by decide), passes_none, rfl⟩
      with_unfolding_all exact ⟨nd, rfl, Or.inl rfl, rfl, Or.inl rfl⟩
      apply q_then
      apply q_if
      apply q_bool
      apply q_wor
      apply q_tnot
      apply q_tv
      apply q_isT (K := K)
      apply q_var (i := 2)
      with_unfolding_all first | exact ⟨rfl, Or.inl rfl, by decide, by decide⟩ | exact ⟨rfl, Or.inr (Or.inl rfl), by decide, by decide⟩ | exact ⟨rfl, Or.inr (Or.inr rfl), by decide, by decide⟩
      with_unfolding_all exact ⟨rfl, Z.isinstance, Z.tuple, bb_tuple, rfl, rfl, rfl, by decide, by decide⟩
      with_unfolding_all exact fun _ => rfl
      apply q_wor
      apply q_tcmp
      apply q_cb
      apply q_cons
      apply q_var (i := 2)
      with_unfolding_all first | exact ⟨rfl, Or.inl rfl, by decide, by decide⟩ | exact ⟨rfl, Or.inr (Or.inl rfl), by decide, by decide⟩ | exact ⟨rfl, Or.inr (Or.inr rfl), by decide, by decide⟩
      apply q_nil
      with_unfolding_all exact rfl
      with_unfolding_all exact ⟨klen (K := K) rfl, Z.len, bb_len, rfl, rfl, by decide, by decide⟩
      apply q_int
      with_unfolding_all exact ⟨kne (K := K) rfl hr.units, nomark _⟩
      apply q_wor
      apply q_tcmp
      apply q_var (i := 2)
      with_unfolding_all first | exact ⟨rfl, Or.inl rfl, by decide, by decide⟩ | exact ⟨rfl, Or.inr (Or.inl rfl), by decide, by decide⟩ | exact ⟨rfl, Or.inr (Or.inr rfl), by decide, by decide⟩
      apply q_var (i := 1)
      with_unfolding_all first | exact ⟨rfl, Or.inl rfl, by decide, by decide⟩ | exact ⟨rfl, Or.inr (Or.inl rfl), by decide, by decide⟩ | exact ⟨rfl, Or.inr (Or.inr rfl), by decide, by decide⟩
      with_unfolding_all exact ⟨kne (K := K) rfl hr.units, nomark _⟩
      apply q_wor1
      apply q_tcmp
      apply q_call
      apply q_cons
      apply q_var (i := 0)
      with_unfolding_all first | exact ⟨rfl, Or.inl rfl, by decide, by decide⟩ | exact ⟨rfl, Or.inr (Or.inl rfl), by decide, by decide⟩ | exact ⟨rfl, Or.inr (Or.inr rfl), by decide, by decide⟩
      apply q_nil
      with_unfolding_all exact rfl
      with_unfolding_all exact ⟨C__law_seen, hr.mono (by decide), rfl, passes_none, rfl, by decide⟩
      apply q_var (i := 1)
      with_unfolding_all first | exact ⟨rfl, Or.inl rfl, by decide, by decide⟩ | exact ⟨rfl, Or.inr (Or.inl rfl), by decide, by decide⟩ | exact ⟨rfl, Or.inr (Or.inr rfl), by decide, by decide⟩
      with_unfolding_all exact ⟨kne (K := K) rfl hr.units, nomark _⟩
      apply q_last
      apply q_ret
      apply q_non
      apply q_end
      apply q_then
      apply q_for
      apply q_iseq (K := K)
      apply q_lstA
      apply q_cons
      apply q_int
      apply q_cons
      apply q_int
      apply q_cons
      apply q_int
      apply q_nil
      with_unfolding_all exact rfl
      with_unfolding_all exact rfl
      with_unfolding_all exact rfl
      with_unfolding_all exact rfl
      apply q_name (i := 3)
      with_unfolding_all exact ⟨nd, rfl, Or.inl rfl, Or.inl rfl⟩
      apply q_last
      apply q_if
      apply q_tnot
      apply q_tv
      apply q_isT (K := K)
      apply q_ix
      apply q_var (i := 2)
      with_unfolding_all first | exact ⟨rfl, Or.inl rfl, by decide, by decide⟩ | exact ⟨rfl, Or.inr (Or.inl rfl), by decide, by decide⟩ | exact ⟨rfl, Or.inr (Or.inr rfl), by decide, by decide⟩
      apply q_var (i := 3)
      with_unfolding_all first | exact ⟨rfl, Or.inl rfl, by decide, by decide⟩ | exact ⟨rfl, Or.inr (Or.inl rfl), by decide, by decide⟩ | exact ⟨rfl, Or.inr (Or.inr rfl), by decide, by decide⟩
      with_unfolding_all exact ⟨kix (K := K) rfl, fun _ _ => rfl⟩
      with_unfolding_all exact ⟨rfl, Z.isinstance, Z.tuple, bb_tuple, rfl, rfl, rfl, by decide, by decide⟩
      with_unfolding_all exact fun _ => rfl
      apply q_last
      apply q_ret
      apply q_non
      apply q_end
      with_unfolding_all exact ⟨PassesOwn.never, rfl, fun _ => rfl⟩
      apply q_last
      apply q_ret
      apply q_var (i := 1)
      with_unfolding_all first | exact ⟨rfl, Or.inl rfl, by decide, by decide⟩ | exact ⟨rfl, Or.inr (Or.inl rfl), by decide, by decide⟩ | exact ⟨rfl, Or.inr (Or.inr rfl), by decide, by decide⟩
    have sz3 : 3 ≤ sizeLine := by decide
    refine ⟨_, rfl, a, pS, st, ln, n, rfl, hH, g, hrl, fun t1 H1 s1 p1 => ?_⟩
    dsimp only [gName]
    have h1 := hH.keep s1
    obtain ⟨dx, vf, vw, qs, r⟩ := h1.raw
    refine ⟨_, rfl, a, _, dx, _, [], _, rfl, r.obj, (by kernel_rfl), ⟨rfl, rfl, rfl⟩, a, pS, st, ln, n, rfl, h1, g, hrl, fun t2 H2 s2 p2 => ?_⟩
    dsimp only [gName]
    refine st_norm (σ' := [some (.ref a), some (.ref t1), some (.ref t2), none]) rfl ?_
    obtain ⟨vf2, ra, rb, vw2, qs2, R⟩ := id p2
    have p12 := p1.kt s2.kt
    refine ⟨_, rfl, _, "tuple", "tuple", rfl, by simp, .tup R.e, true, rfl, iteF ?_⟩
    refine ⟨_, rfl, .inl ⟨t2, _, rfl, .inr (SqT.of R.e), .inl ⟨rfl, _, rfl, iteNe (fun z => absurd rfl z) (fun _ => ?_)⟩⟩⟩
    refine ⟨_, rfl, _, rfl, rNeA.same (pic_shp g) (by decide) p2.rep p12.rep ⟨false, rfl, iteF ?_⟩⟩
    refine ⟨_, rfl, a, pS, st, ln, n, rfl, h1.keep s2, g, hrl, fun t3 H3 s3 p3 => ⟨_, rfl, rNeA.same (pic_shp g) (by decide) p3.rep (p12.kt s3.kt).rep ⟨false, rfl, iteF ?_⟩⟩⟩
    refine next_ ?_
    obtain ⟨ws, hws⟩ := g.g0.far
    refine .inl ⟨sz3, fun pl C n4 => ⟨pl, rfl, ⟨_, SqL.of n4.2.2⟩, for_list (K := K) (a := pl) (xs := [V.int 0, V.int 2, V.int 3]) (fun i σ C' => C' = C ∧ ∃ v3, σ = [some (.ref a), some (.ref t1), some (.ref t2), v3]) ⟨rfl, none, rfl⟩ (fun i σ C' _ h => by rw [h.1]; exact SqL.of n4.2.2) ?_ ?_⟩⟩
    · rintro i x σ C' hx ⟨rfl, v3, rfl⟩
      dsimp only [gName]
      have s34 := s3.trans n4.2.1
      have e2 := s34 _ _ R.e
      have hf := R.hf.kt s34.kt
      rw [hws] at hf
      obtain ⟨pf, rfl, ef⟩ := hf
      have hx3 : (x = .int 0 ∧ atI [V.ref pf, oI st.writer, .ref ra, .ref rb, vw2] 0 = some (.ref pf)) ∨ (x = .int 2 ∧ atI [V.ref pf, oI st.writer, .ref ra, .ref rb, vw2] 2 = some (.ref ra)) ∨ (x = .int 3 ∧ atI [V.ref pf, oI st.writer, .ref ra, .ref rb, vw2] 3 = some (.ref rb)) := by
        match i, hx with
        | 0, hx => exact .inl ⟨(Option.some.inj hx).symm, rfl⟩
        | 1, hx => exact .inr (.inl ⟨(Option.some.inj hx).symm, rfl⟩)
        | 2, hx => exact .inr (.inr ⟨(Option.some.inj hx).symm, rfl⟩)
        | (j + 3), hx => simp at hx
      rcases hx3 with ⟨rfl, at_⟩ | ⟨rfl, at_⟩ | ⟨rfl, at_⟩
      · exact ⟨_, rfl, _, rfl, .inr (.inl ⟨t2, _, _, _, rfl, rfl, SqT.of e2, at_, _, "tuple", "tuple", rfl, by simp, .tup ef, true, rfl, iteF ⟨rfl, _, rfl⟩⟩)⟩
      · exact ⟨_, rfl, _, rfl, .inr (.inl ⟨t2, _, _, _, rfl, rfl, SqT.of e2, at_, _, "tuple", "tuple", rfl, by simp, .tup (s34 _ _ R.ea), true, rfl, iteF ⟨rfl, _, rfl⟩⟩)⟩
      · exact ⟨_, rfl, _, rfl, .inr (.inl ⟨t2, _, _, _, rfl, rfl, SqT.of e2, at_, _, "tuple", "tuple", rfl, by simp, .tup (s34 _ _ R.eb), true, rfl, iteF ⟨rfl, _, rfl⟩⟩)⟩
    · rintro σ C' ⟨rfl, v3, rfl⟩
      have s2C := s2.trans (s3.trans n4.2.1)
      exact ⟨_, rfl, kk t1 _ (s1.trans s2C) (p1.kt s2C.kt)⟩
theorem scLetter : FnScope ["_law_home", "_law_line", "_law_near", "_law_cell", "_law_told", "_law_words", "_law_word", "_law_other", "_law_one"] ["_law_home", "_law_line", "_law_near", "_law_cell"] (defScope sLetter) := ⟨rfl, rfl, rfl, by decide +kernel, rfl, by decide +kernel, by decide +kernel⟩
theorem ok_Letter {f : Addr} {fd : FuncData} (F : Fun K "_law_letter" "_law_letter" sLetter f fd) (Z : Bl mg)  (M_picture : MS P w K mg base 3 (RR cH (spPicture cH)) "picture") (C_make_letter : CalD P w K mg base (CXE P w) 2 "make_letter" ["word", "line", "near", "words"] [] spMkL) (C_make_letter_d1 : CalD P w K mg base (CXE P w) 2 "make_letter" ["word", "line", "near", "words"] [.non] spMkL) :
    FnOk P w K mg base CX0 4 f fd ["_law_home", "_law_line", "_law_near", "_law_cell"] (spLetter cH) := by
  refine F.ok scLetter (fun vs H Q E h => ?_) (fun cdv A outer s H vs Q E hr h => ?_)
  · obtain ⟨a, pS, st, ln, c, n, k, rfl, _⟩ := h
    rfl
  · obtain ⟨a, pS, st, ln, c, n, k, rfl, hH, g, hk, n64, hrl, k0, k1⟩ := h
    have nd := scLetter.nd
    apply body_of
    (conv => arg 2; whnf)
    with_reducible
      apply q_then
      apply q_set (i := 4)
      apply q_meth0
      apply q_var (i := 0)
      with_unfolding_all first | exact ⟨rfl, Or.inl rfl, by decide, by decide⟩ | exact ⟨rfl, Or.inr (Or.inl rfl), by decide, by decide⟩ | exact ⟨rfl, Or.inr (Or.inr rfl), by decide, by decide⟩
      with_unfolding_all exact ⟨M_picture, hr.mono (by decide), passes_none, rfl⟩
      with_unfolding_all exact ⟨nd, rfl, Or.inl rfl, rfl, Or.inl rfl⟩
      apply q_then
      apply q_set (i := 5)
      apply q_tupA
      apply q_cons
      apply q_op
      apply q_var (i := 3)
      with_unfolding_all first | exact ⟨rfl, Or.inl rfl, by decide, by decide⟩ | exact ⟨rfl, Or.inr (Or.inl rfl), by decide, by decide⟩ | exact ⟨rfl, Or.inr (Or.inr rfl), by decide, by decide⟩
      apply q_op
      apply q_int
      apply q_int
      with_unfolding_all exact op_pow
      with_unfolding_all exact op_mod
      apply q_nil
      with_unfolding_all exact rfl
      with_unfolding_all exact ⟨nd, rfl, Or.inl rfl, rfl, Or.inl rfl⟩
      apply q_then
      apply q_if
      apply q_tcmp
      apply q_ix
      apply q_var (i := 4)
      with_unfolding_all first | exact ⟨rfl, Or.inl rfl, by decide, by decide⟩ | exact ⟨rfl, Or.inr (Or.inl rfl), by decide, by decide⟩ | exact ⟨rfl, Or.inr (Or.inr rfl), by decide, by decide⟩
      apply q_int
      with_unfolding_all exact ⟨kix (K := K) rfl, fun _ _ => rfl⟩
      apply q_non
      with_unfolding_all exact ⟨op_notN, nomark _⟩
      apply q_then
      apply q_for
      apply q_iseq (K := K)
      apply q_ix
      apply q_ix
      apply q_var (i := 4)
      with_unfolding_all first | exact ⟨rfl, Or.inl rfl, by decide, by decide⟩ | exact ⟨rfl, Or.inr (Or.inl rfl), by decide, by decide⟩ | exact ⟨rfl, Or.inr (Or.inr rfl), by decide, by decide⟩
      apply q_int
      with_unfolding_all exact ⟨kix (K := K) rfl, fun _ _ => rfl⟩
      apply q_int
      with_unfolding_all exact ⟨kix (K := K) rfl, fun _ _ => rfl⟩
      with_unfolding_all exact rfl
      apply q_gtup (K := K)
      apply q_gcons
      apply q_name (i := 6)
      with_unfolding_all exact ⟨nd, rfl, Or.inl rfl, Or.inl rfl⟩
      apply q_gcons
      apply q_name (i := 7)
      with_unfolding_all exact ⟨nd, rfl, Or.inl rfl, Or.inl rfl⟩
      apply q_gnil
      with_unfolding_all exact rfl
      with_unfolding_all exact rfl
      with_unfolding_all exact ⟨rfl, rfl, rfl⟩
      apply q_last
      apply q_if
      apply q_bool
      apply q_wor
      apply q_tcmp
      apply q_var (i := 7)
      with_unfolding_all first | exact ⟨rfl, Or.inl rfl, by decide, by decide⟩ | exact ⟨rfl, Or.inr (Or.inl rfl), by decide, by decide⟩ | exact ⟨rfl, Or.inr (Or.inr rfl), by decide, by decide⟩
      apply q_var (i := 2)
      with_unfolding_all first | exact ⟨rfl, Or.inl rfl, by decide, by decide⟩ | exact ⟨rfl, Or.inr (Or.inl rfl), by decide, by decide⟩ | exact ⟨rfl, Or.inr (Or.inr rfl), by decide, by decide⟩
      with_unfolding_all exact ⟨keq (K := K) rfl hr.units, nomark _⟩
      apply q_wor1
      apply q_tcmp
      apply q_op
      apply q_var (i := 3)
      with_unfolding_all first | exact ⟨rfl, Or.inl rfl, by decide, by decide⟩ | exact ⟨rfl, Or.inr (Or.inl rfl), by decide, by decide⟩ | exact ⟨rfl, Or.inr (Or.inr rfl), by decide, by decide⟩
      apply q_int
      with_unfolding_all exact op_mod
      apply q_int
      with_unfolding_all exact ⟨keq (K := K) rfl hr.units, nomark _⟩
      apply q_last
      apply q_ret
      apply q_call
      apply q_cons
      apply q_var (i := 6)
      with_unfolding_all first | exact ⟨rfl, Or.inl rfl, by decide, by decide⟩ | exact ⟨rfl, Or.inr (Or.inl rfl), by decide, by decide⟩ | exact ⟨rfl, Or.inr (Or.inr rfl), by decide, by decide⟩
      apply q_cons
      apply q_var (i := 1)
      with_unfolding_all first | exact ⟨rfl, Or.inl rfl, by decide, by decide⟩ | exact ⟨rfl, Or.inr (Or.inl rfl), by decide, by decide⟩ | exact ⟨rfl, Or.inr (Or.inr rfl), by decide, by decide⟩
      apply q_cons
      apply q_var (i := 7)
      with_unfolding_all first | exact ⟨rfl, Or.inl rfl, by decide, by decide⟩ | exact ⟨rfl, Or.inr (Or.inl rfl), by decide, by decide⟩ | exact ⟨rfl, Or.inr (Or.inr rfl), by decide, by decide⟩
      apply q_cons
      apply q_var (i := 5)
      with_unfolding_all first | exact ⟨rfl, Or.inl rfl, by decide, by decide⟩ | exact ⟨rfl, Or.inr (Or.inl rfl), by decide, by decide⟩ | exact ⟨rfl, Or.inr (Or.inr rfl), by decide, by decide⟩
      apply q_nil
      with_unfolding_all exact rfl
      with_unfolding_all exact rfl
      with_unfolding_all exact rfl
      with_unfolding_all exact rfl
      with_unfolding_all exact ⟨C_make_letter, hr.mono (by decide), rfl, passes_none, rfl, by decide⟩
      apply q_end
      with_unfolding_all exact ⟨PassesOwn.never, rfl, fun _ => rfl⟩
      apply q_last
      apply q_if
      apply q_tcmp
      apply q_ix
      apply q_ix
      apply q_ix
      apply q_var (i := 4)
      with_unfolding_all first | exact ⟨rfl, Or.inl rfl, by decide, by decide⟩ | exact ⟨rfl, Or.inr (Or.inl rfl), by decide, by decide⟩ | exact ⟨rfl, Or.inr (Or.inr rfl), by decide, by decide⟩
      apply q_int
      with_unfolding_all exact ⟨kix (K := K) rfl, fun _ _ => rfl⟩
      apply q_int
      with_unfolding_all exact ⟨kix (K := K) rfl, fun _ _ => rfl⟩
      apply q_int
      with_unfolding_all exact ⟨kix (K := K) rfl, fun _ _ => rfl⟩
      apply q_var (i := 2)
      with_unfolding_all first | exact ⟨rfl, Or.inl rfl, by decide, by decide⟩ | exact ⟨rfl, Or.inr (Or.inl rfl), by decide, by decide⟩ | exact ⟨rfl, Or.inr (Or.inr rfl), by decide, by decide⟩
      with_unfolding_all exact ⟨keq (K := K) rfl hr.units, nomark _⟩
      apply q_last
      apply q_ret
      apply q_non
      apply q_end
      apply q_end
      apply q_then
      apply q_for
      apply q_iseq (K := K)
      apply q_ix
      apply q_var (i := 4)
      with_unfolding_all first | exact ⟨rfl, Or.inl rfl, by decide, by decide⟩ | exact ⟨rfl, Or.inr (Or.inl rfl), by decide, by decide⟩ | exact ⟨rfl, Or.inr (Or.inr rfl), by decide, by decide⟩
      apply q_int
      with_unfolding_all exact ⟨kix (K := K) rfl, fun _ _ => rfl⟩
      with_unfolding_all exact rfl
      apply q_name (i := 8)
      with_unfolding_all exact ⟨nd, rfl, Or.inl rfl, Or.inl rfl⟩
      apply q_last
      apply q_if
      apply q_tcmp
      apply q_ix
      apply q_var (i := 8)
      with_unfolding_all first | exact ⟨rfl, Or.inl rfl, by decide, by decide⟩ | exact ⟨rfl, Or.inr (Or.inl rfl), by decide, by decide⟩ | exact ⟨rfl, Or.inr (Or.inr rfl), by decide, by decide⟩
      apply q_int
      with_unfolding_all exact ⟨kix (K := K) rfl, fun _ _ => rfl⟩
      apply q_var (i := 2)
      with_unfolding_all first | exact ⟨rfl, Or.inl rfl, by decide, by decide⟩ | exact ⟨rfl, Or.inr (Or.inl rfl), by decide, by decide⟩ | exact ⟨rfl, Or.inr (Or.inr rfl), by decide, by decide⟩
      with_unfolding_all exact ⟨keq (K := K) rfl hr.units, nomark _⟩
      apply q_last
      apply q_ret
      apply q_non
      apply q_end
      with_unfolding_all exact ⟨PassesOwn.never, rfl, fun _ => rfl⟩
      apply q_then
      apply q_if
      apply q_tcmp
      apply q_ix
      apply q_var (i := 4)
      with_unfolding_all first | exact ⟨rfl, Or.inl rfl, by decide, by decide⟩ | exact ⟨rfl, Or.inr (Or.inl rfl), by decide, by decide⟩ | exact ⟨rfl, Or.inr (Or.inr rfl), by decide, by decide⟩
      apply q_int
      with_unfolding_all exact ⟨kix (K := K) rfl, fun _ _ => rfl⟩
      apply q_var (i := 2)
      with_unfolding_all first | exact ⟨rfl, Or.inl rfl, by decide, by decide⟩ | exact ⟨rfl, Or.inr (Or.inl rfl), by decide, by decide⟩ | exact ⟨rfl, Or.inr (Or.inr rfl), by decide, by decide⟩
      with_unfolding_all exact ⟨keq (K := K) rfl hr.units, nomark _⟩
      apply q_last
      apply q_ret
      apply q_call
      apply q_cons
      apply q_str
      apply q_cons
      apply q_var (i := 1)
      with_unfolding_all first | exact ⟨rfl, Or.inl rfl, by decide, by decide⟩ | exact ⟨rfl, Or.inr (Or.inl rfl), by decide, by decide⟩ | exact ⟨rfl, Or.inr (Or.inr rfl), by decide, by decide⟩
      apply q_cons
      apply q_var (i := 2)
      with_unfolding_all first | exact ⟨rfl, Or.inl rfl, by decide, by decide⟩ | exact ⟨rfl, Or.inr (Or.inl rfl), by decide, by decide⟩ | exact ⟨rfl, Or.inr (Or.inr rfl), by decide, by decide⟩
      apply q_cons
      apply q_var (i := 5)
      with_unfolding_all first | exact ⟨rfl, Or.inl rfl, by decide, by decide⟩ | exact ⟨rfl, Or.inr (Or.inl rfl), by decide, by decide⟩ | exact ⟨rfl, Or.inr (Or.inr rfl), by decide, by decide⟩
      apply q_nil
      with_unfolding_all exact rfl
      with_unfolding_all exact rfl
      with_unfolding_all exact rfl
      with_unfolding_all exact rfl
      with_unfolding_all exact ⟨C_make_letter, hr.mono (by decide), rfl, passes_none, rfl, by decide⟩
      apply q_end
      apply q_then
      apply q_if
      apply q_tcmp
      apply q_var (i := 2)
      with_unfolding_all first | exact ⟨rfl, Or.inl rfl, by decide, by decide⟩ | exact ⟨rfl, Or.inr (Or.inl rfl), by decide, by decide⟩ | exact ⟨rfl, Or.inr (Or.inr rfl), by decide, by decide⟩
      apply q_ix
      apply q_var (i := 4)
      with_unfolding_all first | exact ⟨rfl, Or.inl rfl, by decide, by decide⟩ | exact ⟨rfl, Or.inr (Or.inl rfl), by decide, by decide⟩ | exact ⟨rfl, Or.inr (Or.inr rfl), by decide, by decide⟩
      apply q_int
      with_unfolding_all exact ⟨kix (K := K) rfl, fun _ _ => rfl⟩
      with_unfolding_all exact ⟨kinB (K := K) rfl hr.units, rfl⟩
      apply q_last
      apply q_ret
      apply q_call
      apply q_cons
      apply q_ix
      apply q_lstA
      apply q_cons
      apply q_str
      apply q_cons
      apply q_str
      apply q_nil
      with_unfolding_all exact rfl
      with_unfolding_all exact rfl
      apply q_op
      apply q_op
      apply q_var (i := 3)
      with_unfolding_all first | exact ⟨rfl, Or.inl rfl, by decide, by decide⟩ | exact ⟨rfl, Or.inr (Or.inl rfl), by decide, by decide⟩ | exact ⟨rfl, Or.inr (Or.inr rfl), by decide, by decide⟩
      apply q_int
      with_unfolding_all exact op_fdiv
      apply q_int
      with_unfolding_all exact op_mod
      with_unfolding_all exact ⟨kix (K := K) rfl, fun _ _ => rfl⟩
      apply q_cons
      apply q_var (i := 1)
      with_unfolding_all first | exact ⟨rfl, Or.inl rfl, by decide, by decide⟩ | exact ⟨rfl, Or.inr (Or.inl rfl), by decide, by decide⟩ | exact ⟨rfl, Or.inr (Or.inr rfl), by decide, by decide⟩
      apply q_cons
      apply q_var (i := 2)
      with_unfolding_all first | exact ⟨rfl, Or.inl rfl, by decide, by decide⟩ | exact ⟨rfl, Or.inr (Or.inl rfl), by decide, by decide⟩ | exact ⟨rfl, Or.inr (Or.inr rfl), by decide, by decide⟩
      apply q_nil
      with_unfolding_all exact rfl
      with_unfolding_all exact rfl
      with_unfolding_all exact rfl
      with_unfolding_all exact ⟨C_make_letter_d1, hr.mono (by decide), rfl, passes_none, rfl, by decide⟩
      apply q_end
      apply q_last
      apply q_ret
      apply q_call
      apply q_cons
      apply q_ix
      apply q_lstA
      apply q_cons
      apply q_str
      apply q_cons
      apply q_str
      apply q_nil
      with_unfolding_all exact rfl
      with_unfolding_all exact rfl
      apply q_op
      apply q_op
      apply q_var (i := 3)
      with_unfolding_all first | exact ⟨rfl, Or.inl rfl, by decide, by decide⟩ | exact ⟨rfl, Or.inr (Or.inl rfl), by decide, by decide⟩ | exact ⟨rfl, Or.inr (Or.inr rfl), by decide, by decide⟩
      apply q_int
      with_unfolding_all exact op_fdiv
      apply q_int
      with_unfolding_all exact op_mod
      with_unfolding_all exact ⟨kix (K := K) rfl, fun _ _ => rfl⟩
      apply q_cons
      apply q_var (i := 1)
      with_unfolding_all first | exact ⟨rfl, Or.inl rfl, by decide, by decide⟩ | exact ⟨rfl, Or.inr (Or.inl rfl), by decide, by decide⟩ | exact ⟨rfl, Or.inr (Or.inr rfl), by decide, by decide⟩
      apply q_cons
      apply q_var (i := 2)
      with_unfolding_all first | exact ⟨rfl, Or.inl rfl, by decide, by decide⟩ | exact ⟨rfl, Or.inr (Or.inl rfl), by decide, by decide⟩ | exact ⟨rfl, Or.inr (Or.inr rfl), by decide, by decide⟩
      apply q_nil
      with_unfolding_all exact rfl
      with_unfolding_all exact rfl
      with_unfolding_all exact rfl
      with_unfolding_all exact ⟨C_make_letter_d1, hr.mono (by decide), rfl, passes_none, rfl, by decide⟩
    have sz1 : 1 ≤ sizeLine := by decide
    have sz2 : 2 ≤ sizeLine := by decide
    have p60 : CPow 10 60 := ⟨by decide, by decide, by decide⟩
    have pos60 : (0 : Int) < 10 ^ (60 : Int).toNat := by decide
    have k64 : k < 64 := by omega
    obtain ⟨dx, vf, vw, qs, r⟩ := hH.raw
    refine ⟨_, rfl, a, _, dx, _, [], _, rfl, r.obj, (by kernel_rfl), ⟨rfl, rfl, rfl⟩, a, pS, st, ln, n, rfl, hH, g, hrl, fun t H1 s1 p1 => ?_⟩
    dsimp only [gName]
    refine ⟨_, rfl, _, _, rfl, rfl, p60, _, _, rfl, rfl, pos60, sz1, fun pw H2 n2 => ?_⟩
    dsimp only [gName]
    refine st_norm (σ' := [some (.ref a), some (.int ln), some (.int ((k : Nat) : Int)), some (.int c), some (.ref t), some (.ref pw), none, none, none]) rfl ?_
    have s2 := s1.trans n2.2.1
    have epw : WoAt H2 (.ref pw) (some [c % 10 ^ (60 : Int).toNat]) := ⟨pw, rfl, n2.2.2⟩
    obtain ⟨vf2, ra, rb, vw2, qs2, R⟩ := p1.kt n2.2.1.kt
    have eR := R.e
    refine cut (fun σ C => C = H2 ∧ ∃ v6 v7, σ = [some (.ref a), some (.int ln), some (.int ((k : Nat) : Int)), some (.int c), some (.ref t), some (.ref pw), v6, v7, none] ∧ letF st ln k c = letA st ln k c) ?tl fun tl => ?hd
    case hd =>
      rcases R.wk with ⟨hw, rfl⟩ | ⟨w, x, p, q, d, ts, hw, hx, rfl, e4, lw, f4, gg⟩
      · refine ⟨_, rfl, .inr (.inl ⟨t, _, _, _, rfl, rfl, SqT.of eR, rfl, rfl, _, rfl, iteND (fun z => absurd rfl z) (fun _ => next_ (tl _ _ ⟨rfl, none, none, rfl, ?_⟩))⟩)⟩
        unfold letF
        rw [hw]
      · have eF : letF st ln k c = letB st w x ln k c := by
          unfold letF
          rw [hw, hx]
        obtain ⟨hwk, y, hy, hya⟩ := g.wk w hw
        obtain rfl : x = y := Option.some.inj (hx.symm.trans hy)
        obtain ⟨vl, el, hvl⟩ := id lw
        refine ⟨_, rfl, .inr (.inl ⟨t, _, _, _, rfl, rfl, SqT.of eR, rfl, rfl, _, rfl, iteND (fun _ => ?_) (fun z => nomatch z)⟩)⟩
        refine .inr ⟨_, rfl, .inr (.inl ⟨t, _, _, _, rfl, rfl, SqT.of eR, rfl, .inr (.inl ⟨p, _, _, _, rfl, rfl, SqT.of e4, rfl, d, rfl, ⟨_, SqT.of f4⟩, for_tup (K := K) (a := d) (xs := ts.map V.ref) (fun i σ C => C = H2 ∧ ∃ v6 v7, σ = [some (.ref a), some (.int ln), some (.int ((k : Nat) : Int)), some (.int c), some (.ref t), some (.ref pw), v6, v7, none] ∧ scan k c (inS st.an) = scan k c ((inS st.an).drop i)) ⟨rfl, none, none, rfl, rfl⟩ (fun i σ C _ h => by rw [h.1]; exact SqT.of f4) ?_ ?_⟩)⟩)⟩
        · rintro i v σ C hv ⟨rfl, v6, v7, rfl, hsc⟩
          obtain ⟨tt, j, rfl, hj, ett⟩ := gg.at hv
          refine ⟨tt, _, rfl, SqT.of ett, rfl, _, _, rfl, _, _, rfl, rfl, ?_⟩
          dsimp only [gName]
          refine st_norm (σ' := [some (.ref a), some (.int ln), some (.int ((k : Nat) : Int)), some (.int c), some (.ref t), some (.ref pw), some (.str x), some (.int ((j : Nat) : Int)), none]) rfl ?_
          rw [scan_drop hj] at hsc
          have ret : (j = k ∨ c % 3 = 0) → ∀ D : Ends, D.rt = Q → tRet (tCallX spMkL [] (fun x => E0) (tCons (tVar 6) (tCons (tVar 1) (tCons (tVar 7) (tCons (tVar 5) tNil))))) D [some (.ref a), some (.int ln), some (.int ((k : Nat) : Int)), some (.int c), some (.ref t), some (.ref pw), some (.str x), some (.int ((j : Nat) : Int)), none] C := fun hjk D hD => by
            rw [if_pos hjk] at hsc
            refine ⟨_, rfl, _, rfl, _, rfl, _, rfl, x, ln, ((j : Nat) : Int), .ref pw, some [c % 10 ^ (60 : Int).toNat], rfl, ans_isw hya, epw, fun p' H' s' hp' hl' => ?_⟩
            rw [hD]
            exact k1 _ (eF.trans (letB_some hsc)) p' H' (s2.trans s') hl'
          refine ⟨_, rfl, _, rfl, .inl ⟨rfl, _, rfl, iteEq (fun z => ?_) (fun z => ?_)⟩⟩
          · exact ret (.inl (by omega)) _ rfl
          · refine ⟨_, rfl, _, _, rfl, rfl, (by show (0 : Int) < 3; decide), .inl ⟨rfl, _, rfl, iteEq (fun y => ?_) (fun y => ?_)⟩⟩
            · exact ret (.inr y) _ rfl
            · refine ⟨rfl, _, _, rfl, ?_⟩
              rw [if_neg (fun u => u.elim (fun u => z (by rw [u])) y)] at hsc
              exact hsc
        · rintro σ C ⟨rfl, v6, v7, rfl, hsc⟩
          rw [List.length_map, gg.length, List.drop_length] at hsc
          refine ⟨_, rfl, .inr (.inl ⟨t, _, _, _, rfl, rfl, SqT.of eR, rfl, .inr (.inl ⟨p, _, _, _, rfl, rfl, SqT.of e4, rfl, .inr (.inl ⟨q, _, _, _, rfl, rfl, SqT.of el, rfl, _, rfl, .inl ⟨rfl, _, rfl, iteEq (fun z => ?_) (fun z => ?_)⟩⟩)⟩)⟩)⟩
          · exact k0 (by rw [eF, letB_none hsc, if_pos z]) _ s2
          · exact next_ (tl _ _ ⟨rfl, v6, v7, rfl, by rw [eF, letB_none hsc, if_neg z]⟩)
    rintro σ H9 ⟨rfl, v6, v7, rfl, eF⟩
    refine .inr ⟨_, rfl, .inr (.inl ⟨t, _, _, _, rfl, rfl, SqT.of eR, rfl, rb, rfl, ⟨_, SqT.of R.eb⟩, for_tup (K := K) (a := rb) (xs := qs2.map V.ref) (fun i σ C => C = H9 ∧ ∃ v8, σ = [some (.ref a), some (.int ln), some (.int ((k : Nat) : Int)), some (.int c), some (.ref t), some (.ref pw), v6, v7, v8] ∧ ∀ j y, j < i → st.row[j]? = some y → y.near ≠ ((k : Nat) : Int)) ⟨rfl, none, rfl, (fun j y hj => absurd hj (Nat.not_lt_zero j))⟩ (fun i σ C _ h => by rw [h.1]; exact SqT.of R.eb) ?_ ?_⟩)⟩
    · rintro i v σ C hv ⟨rfl, v8, rfl, hno⟩
      obtain ⟨ql, l, rfl, hl, hm, hlt⟩ := R.lb.at hv
      dsimp only [gName]
      refine st_norm (σ' := [some (.ref a), some (.int ln), some (.int ((k : Nat) : Int)), some (.int c), some (.ref t), some (.ref pw), v6, v7, some (.ref ql)]) rfl ?_
      obtain ⟨vl, el, hvl⟩ := id hlt
      refine ⟨_, rfl, .inr (.inl ⟨ql, _, _, _, rfl, rfl, SqT.of el, rfl, _, rfl, .inl ⟨rfl, _, rfl, iteEq (fun z => ?_) (fun z => ?_)⟩⟩)⟩
      · refine k0 ?_ _ s2
        rw [eF]
        unfold letA
        rw [if_pos (List.any_eq_true.mpr ⟨l, hm, decide_eq_true z⟩)]
      · refine ⟨rfl, _, rfl, fun j y hj hy => ?_⟩
        by_cases e : j = i
        · rw [e, hl] at hy
          rw [← Option.some.inj hy]
          exact z
        · exact hno j y (by omega) hy
    · rintro σ C ⟨rfl, v8, rfl, hno⟩
      have hany : (st.row.any fun x => decide (x.near = ((k : Nat) : Int))) = false := by
        rw [List.any_eq_false]
        intro y hy z
        obtain ⟨j, hj⟩ := List.getElem?_of_mem hy
        refine hno j y ?_ hj (of_decide_eq_true z)
        have := (List.getElem?_eq_some_iff.mp hj).1
        rw [List.length_map, R.lb.length]
        exact this
      have eA : letF st ln k c = if st.writer = some k then some ⟨"back", ln, ((k : Nat) : Int), some [c % 10 ^ (60 : Int).toNat]⟩
          else if st.rd k = true then some ⟨if c / 3 % 2 = 0 then "write" else "back", ln, ((k : Nat) : Int), none⟩
          else some ⟨if c / 3 % 2 = 0 then "read" else "write", ln, ((k : Nat) : Int), none⟩ := by
        rw [eF]
        unfold letA
        rw [hany]
        rfl
      refine ⟨_, rfl, .inr (.inl ⟨t, _, _, _, rfl, rfl, SqT.of eR, rfl, _, rfl, .inl ⟨?fl, _, rfl, iteD (fun z => ?_) (fun z => ?_)⟩⟩)⟩
      case fl => cases st.writer <;> rfl
      · rw [if_pos (oI_int.mp z)] at eA
        refine ⟨_, rfl, _, rfl, _, rfl, "back", ln, ((k : Nat) : Int), .ref pw, some [c % 10 ^ (60 : Int).toNat], rfl, word_home (by simp), epw, fun p' H' s' hp' hl' => ?_⟩
        exact k1 _ eA p' H' (s2.trans s') hl'
      rw [if_neg fun e => z (oI_int.mpr e)] at eA
      refine next_ ?_
      refine ⟨_, rfl, _, rfl, .inr (.inl ⟨t, _, _, _, rfl, rfl, SqT.of eR, rfl, .inl (.inl ⟨ra, _, rfl, .inr (SqT.of R.ea), rfl, flat_natV _, _, rfl, ?_⟩)⟩)⟩
      show if inV (.int ((k : Nat) : Int)) (natV (inS st.rd)) = true then _ else _
      rw [in_natV k64]
      refine iteB (fun y => ?_) (fun y => ?_)
      · rw [if_pos y] at eA
        refine ⟨sz2, fun pl C3 n3 => ⟨_, rfl, _, _, rfl, rfl, ⟨by decide, by decide⟩, _, _, rfl, rfl, (by show (0 : Int) < 2; decide), .inl ⟨pl, _, _, _, rfl, rfl, SqL.of n3.2.2, wob, _, rfl, _, rfl, _, ln, ((k : Nat) : Int), .non, none, rfl, word_home (by split <;> simp), rfl, fun p' H' s' hp' hl' => ?_⟩⟩⟩
        exact k1 _ eA p' H' (s2.trans (n3.2.1.trans s')) hl'
      · rw [if_neg (by rw [y]; decide)] at eA
        refine next_ ?_
        refine ⟨sz2, fun pl C3 n3 => ⟨_, rfl, _, _, rfl, rfl, ⟨by decide, by decide⟩, _, _, rfl, rfl, (by show (0 : Int) < 2; decide), .inl ⟨pl, _, _, _, rfl, rfl, SqL.of n3.2.2, wob, _, rfl, _, rfl, _, ln, ((k : Nat) : Int), .non, none, rfl, word_home (by split <;> simp), rfl, fun p' H' s' hp' hl' => ?_⟩⟩⟩
        exact k1 _ eA p' H' (s2.trans (n3.2.1.trans s')) hl'
end
end K36

set_option Elab.async false
set_option linter.all false
set_option maxRecDepth 100000
set_option maxHeartbeats 1000000
namespace K36
open PySem L2
section
variable {P : Program} {w : World} {K : PySem.W.Frag} {mg : Str → Option Value} {base : Heap} {cH aA cU : Addr}

theorem use_come2 {H : Hp} {h pS q : Addr} {st : Hm} {r : Hm × List Ltr} {l : Ltr} {Q : VK} {E : XK} (hH : HomeAt cH H h pS st) (hl : LtAt H q l) (hb : awaitsB st l = true) (kw : asks l.word = true ∨ ∃ wl, st.work = some wl) (hlen : st.row.length ≤ 500) (ec : comeM st l = r)
    (k : ∀ p ps H2, SB [h, pS] H H2 → H p = none → HomeAt cH H2 h pS r.1 → H2 p = some (.lst (ps.map V.ref)) → Lets H2 ps r.2 → Q (.ref p) H2) : spCome cH cU [.ref h, .ref q] H Q E :=
  ⟨h, pS, q, st, l, rfl, hH, hlen, hl, fun _ => ⟨kw, by rw [ec]; exact k⟩, fun z => absurd (z.symm.trans hb) (by decide)⟩
theorem sb_mono {xs ys : List Addr} {H H' : Hp} (s : SB xs H H') (h : ∀ x ∈ xs, x ∈ ys) : SB ys H H' := fun b o e n => s b o e fun z => n (h b z)
theorem HeldV.kt {C C' : Hp} {xs : List V} (h : HeldV C xs) (k : KTup C C') : HeldV C' xs := by
  rcases h with ⟨qs, ls, h1, h2, h3⟩ | h | ⟨x, ts, ks, h1, h2, h3⟩
  · exact .inl ⟨qs, ls, h1, h2.kt k, h3⟩
  · exact .inr (.inl h)
  · exact .inr (.inr ⟨x, ts, ks, h1, h2.kt k, h3⟩)
theorem HeldV.rep {C : Hp} {xs : List V} (h : HeldV C xs) : ∃ ds, Reps K C xs ds ∧ ∀ d ∈ ds, Shp 2 d := by
  rcases h with ⟨qs, ls, rfl, h2, h3⟩ | ⟨ks, rfl⟩ | ⟨x, ts, ks, rfl, h2, h3⟩
  · refine ⟨_, h2.reps, fun d hd => ?_⟩
    obtain ⟨l, hl, rfl⟩ := List.mem_map.mp hd
    exact l.shp (word_ok (h3 l hl))
  · exact ⟨_, natV_reps ks, natD_shp ks⟩
  · refine ⟨_, h2.reps, fun d hd => ?_⟩
    obtain ⟨k, _, rfl⟩ := List.mem_map.mp hd
    exact .tup (n := 1) (all1 (.str (word_ok h3)) (all1 (.int _) all0))
theorem Helds.sb {C C' : Hp} {no ts xs : List Addr} (h : Helds C no ts) (s : SB xs C C') (hx : ∀ x ∈ xs, x ∈ no) (k : KTup C C') : Helds C' no ts := fun t ht => by
  obtain ⟨p, q, ys, r⟩ := h t ht
  exact ⟨p, q, ys, k _ _ r.e, s _ _ r.ep (fun z => r.np (hx p z)), s _ _ r.eq (fun z => r.nq (hx q z)), r.v.kt k, r.np, r.nq⟩
theorem kt_pK {C C' : Hp} {pK : Addr} {xs : List V} (e : C pK = some (.lst xs)) (s : SB [pK] C C') : KTup C C' := fun b ys eb => s _ _ eb fun z => by
  rw [List.mem_singleton.mp z, e] at eb
  cases eb
theorem free_sb {H C : Hp} {xs : List Addr} {p : Addr} (s : SB xs H C) (hx : ∀ x ∈ xs, C x ≠ none) (h : C p = none) : H p = none := by
  cases e : H p with
  | none => rfl
  | some o =>
    exfalso
    by_cases z : p ∈ xs
    · exact hx p z h
    · rw [s _ _ e z] at h
      cases h
theorem al_sb {H C : Hp} {no xs : List Addr} (hn : ∀ x ∈ no, H x ≠ none) (s : SB xs H C) (hx : ∀ x ∈ xs, C x ≠ none) : ∀ x ∈ no, C x ≠ none := fun x hm z => hn x hm (free_sb s hx z)
theorem use_workN {σ : St} {H : Hp} {a pS : Addr} {st : Hm} {ln : Int} {n : Nat} {Q : VK} {E : XK} (hH : HomeAt cH H a pS st) (g : Gd ln n st) (k : ∀ v H', Same H H' → WorkL H H' v st → Q v H') : tNil σ H (fun vs H2 => spWork cH (V.ref a :: (vs ++ [])) H2 Q E) := use_work (cH := cH) (E := E) hH g k
/-- one more list is held -/
theorem hold_one {C C1 C2 : Hp} {no ts : List Addr} {pK px pc pt : Addr} {xs : List V} (iK : pK ∈ no) (al : ∀ x ∈ no, C x ≠ none) (eK : C pK = some (.lst (ts.map V.ref))) (hh : Helds C no ts) (ex : C px = some (.lst xs)) (v : HeldV C xs) (np : px ∉ no) (m1 : New C pc (.lst xs) C1) (m2 : New C1 pt (.tup [.ref px, .ref pc]) C2) :
    SB [pK] C (L2.upd C2 pK (.lst (ts.map V.ref ++ [V.ref pt]))) ∧ L2.upd C2 pK (.lst (ts.map V.ref ++ [V.ref pt])) pK = some (.lst ((ts ++ [pt]).map V.ref)) ∧ Helds (L2.upd C2 pK (.lst (ts.map V.ref ++ [V.ref pt]))) no (ts ++ [pt]) := by
  have s12 := m1.2.1.trans m2.2.1
  have k3 : KTup C2 (L2.upd C2 pK (.lst (ts.map V.ref ++ [V.ref pt]))) := kt_updL (s12 _ _ eK)
  have sb : SB [pK] C (L2.upd C2 pK (.lst (ts.map V.ref ++ [V.ref pt]))) := (SB.of s12).upd (by simp)
  have kt := s12.kt.trans k3
  refine ⟨sb, by rw [upd_same, List.map_append]; rfl, fun t ht => ?_⟩
  rcases List.mem_append.mp ht with ht | ht
  · exact (hh.sb sb (fun x hx => by rw [List.mem_singleton.mp hx]; exact iK) kt) t ht
  · rw [List.mem_singleton.mp ht]
    have nc : pc ∉ no := fun z => al pc z m1.1
    exact ⟨px, pc, xs, k3 _ _ m2.2.2, (upd_ne (fun z => np (by rw [z]; exact iK))).trans (s12 _ _ ex), (upd_ne (fun z => nc (by rw [z]; exact iK))).trans (m2.2.1 _ _ m1.2.2), v.kt kt, np, nc⟩
theorem scComeL : FnScope ["_law_home", "_law_line", "_law_near", "_law_cell", "_law_held_here", "_law_one", "_law_sent", "_law_row", "_law_readers", "_law_told", "_law_awaited"] ["_law_home", "_law_line", "_law_near", "_law_cell", "_law_held_here"] (defScope sComeL) := ⟨rfl, rfl, rfl, by decide +kernel, rfl, by decide +kernel, by decide +kernel⟩
theorem ok_ComeL {f : Addr} {fd : FuncData} (F : Fun K "_law_come" "_law_come" sComeL f fd) (Z : Bl mg) (C__law_letter : CalD P w K mg base (CXE P w) 4 "_law_letter" ["_law_home", "_law_line", "_law_near", "_law_cell"] [] (spLetter cH)) (M_come : MS P w K mg base 8 (RR cH (spCome cH cU)) "come") (M_row : MS P w K mg base 1 (RR cH (spRowH cH)) "row") (M_book : MS P w K mg base 2 (RR cH (spBook cH)) "book") (M_work : MS P w K mg base 2 (RR cH (spWork cH)) "work") :
    FnOk P w K mg base CX0 9 f fd ["_law_home", "_law_line", "_law_near", "_law_cell", "_law_held_here"] (spComeL cH) := by
  refine F.ok scComeL (fun vs H Q E h => ?_) (fun cdv A outer s H vs Q E hr h => ?_)
  · obtain ⟨a, pS, pK, st, ln, c, n, k, no, ts, rfl, _⟩ := h
    rfl
  · obtain ⟨a, pS, pK, st, ln, c, n, k, no, ts, rfl, hH, g, hk, n64, hrl, nK, eK, htl, hh, ia, iS, iK, hno, kk⟩ := h
    have nd := scComeL.nd
    apply body_of
    (conv => arg 2; whnf)
    with_reducible
      apply q_then
      apply q_set (i := 5)
      apply q_call
      apply q_cons
      apply q_var (i := 0)
      with_unfolding_all first | exact ⟨rfl, Or.inl rfl, by decide, by decide⟩ | exact ⟨rfl, Or.inr (Or.inl rfl), by decide, by decide⟩ | exact ⟨rfl, Or.inr (Or.inr rfl), by decide, by decide⟩
      apply q_cons
      apply q_var (i := 1)
      with_unfolding_all first | exact ⟨rfl, Or.inl rfl, by decide, by decide⟩ | exact ⟨rfl, Or.inr (Or.inl rfl), by decide, by decide⟩ | exact ⟨rfl, Or.inr (Or.inr rfl), by decide, by decide⟩
      apply q_cons
      apply q_var (i := 2)
      with_unfolding_all first | exact ⟨rfl, Or.inl rfl, by decide, by decide⟩ | exact ⟨rfl, Or.inr (Or.inl rfl), by decide, by decide⟩ | exact ⟨rfl, Or.inr (Or.inr rfl), by decide, by decide⟩
      apply q_cons
      apply q_var (i := 3)
      with_unfolding_all first | exact ⟨rfl, Or.inl rfl, by decide, by decide⟩ | exact ⟨rfl, Or.inr (Or.inl rfl), by decide, by decide⟩ | exact ⟨rfl, Or.inr (Or.inr rfl), by decide, by decide⟩
      apply q_nil
      with_unfolding_all exact rfl
      with_unfolding_all exact rfl
      with_unfolding_all exact rfl
      with_unfolding_all exact rfl
      with_unfolding_all exact ⟨C__law_letter, hr.mono (by decide), rfl, passes_none, rfl, by decide⟩
      with_unfolding_all exact ⟨nd, rfl, Or.inl rfl, rfl, Or.inl rfl⟩
      apply q_then
      apply q_if
      apply q_tcmp
      apply q_var (i := 5)
      with_unfolding_all first | exact ⟨rfl, Or.inl rfl, by decide, by decide⟩ | exact ⟨rfl, Or.inr (Or.inl rfl), by decide, by decide⟩ | exact ⟨rfl, Or.inr (Or.inr rfl), by decide, by decide⟩
      apply q_non
      with_unfolding_all exact ⟨op_isN, nomark _⟩
      apply q_last
      apply q_ret
      apply q_lstA
      apply q_nil
      apply q_end
      apply q_then
      apply q_set (i := 6)
      apply q_meth
      apply q_var (i := 0)
      with_unfolding_all first | exact ⟨rfl, Or.inl rfl, by decide, by decide⟩ | exact ⟨rfl, Or.inr (Or.inl rfl), by decide, by decide⟩ | exact ⟨rfl, Or.inr (Or.inr rfl), by decide, by decide⟩
      apply q_cons
      apply q_var (i := 5)
      with_unfolding_all first | exact ⟨rfl, Or.inl rfl, by decide, by decide⟩ | exact ⟨rfl, Or.inr (Or.inl rfl), by decide, by decide⟩ | exact ⟨rfl, Or.inr (Or.inr rfl), by decide, by decide⟩
      apply q_nil
      with_unfolding_all exact rfl
      with_unfolding_all exact ⟨M_come, hr.mono (by decide), passes_none, rfl, rfl⟩
      with_unfolding_all exact ⟨nd, rfl, Or.inl rfl, rfl, Or.inl rfl⟩
      apply q_then
      apply q_set (i := 7)
      apply q_meth0
      apply q_var (i := 0)
      with_unfolding_all first | exact ⟨rfl, Or.inl rfl, by decide, by decide⟩ | exact ⟨rfl, Or.inr (Or.inl rfl), by decide, by decide⟩ | exact ⟨rfl, Or.inr (Or.inr rfl), by decide, by decide⟩
      with_unfolding_all exact ⟨M_row, hr.mono (by decide), passes_none, rfl⟩
      with_unfolding_all exact ⟨nd, rfl, Or.inl rfl, rfl, Or.inl rfl⟩
      apply q_then
      apply q_set (i := 8)
      apply q_ix
      apply q_meth0
      apply q_var (i := 0)
      with_unfolding_all first | exact ⟨rfl, Or.inl rfl, by decide, by decide⟩ | exact ⟨rfl, Or.inr (Or.inl rfl), by decide, by decide⟩ | exact ⟨rfl, Or.inr (Or.inr rfl), by decide, by decide⟩
      with_unfolding_all exact ⟨M_book, hr.mono (by decide), passes_none, rfl⟩
      apply q_int
      with_unfolding_all exact ⟨kix (K := K) rfl, fun _ _ => rfl⟩
      with_unfolding_all exact ⟨nd, rfl, Or.inl rfl, rfl, Or.inl rfl⟩
      apply q_then
      apply q_for
      apply q_iseq (K := K)
      apply q_lstA
      apply q_cons
      apply q_var (i := 6)
      with_unfolding_all first | exact ⟨rfl, Or.inl rfl, by decide, by decide⟩ | exact ⟨rfl, Or.inr (Or.inl rfl), by decide, by decide⟩ | exact ⟨rfl, Or.inr (Or.inr rfl), by decide, by decide⟩
      apply q_cons
      apply q_var (i := 7)
      with_unfolding_all first | exact ⟨rfl, Or.inl rfl, by decide, by decide⟩ | exact ⟨rfl, Or.inr (Or.inl rfl), by decide, by decide⟩ | exact ⟨rfl, Or.inr (Or.inr rfl), by decide, by decide⟩
      apply q_cons
      apply q_var (i := 8)
      with_unfolding_all first | exact ⟨rfl, Or.inl rfl, by decide, by decide⟩ | exact ⟨rfl, Or.inr (Or.inl rfl), by decide, by decide⟩ | exact ⟨rfl, Or.inr (Or.inr rfl), by decide, by decide⟩
      apply q_nil
      with_unfolding_all exact rfl
      with_unfolding_all exact rfl
      with_unfolding_all exact rfl
      with_unfolding_all exact rfl
      apply q_name (i := 9)
      with_unfolding_all exact ⟨nd, rfl, Or.inl rfl, Or.inl rfl⟩
      apply q_last
      apply q_expr
      apply q_bm (K := K)
      apply q_var (i := 4)
      with_unfolding_all first | exact ⟨rfl, Or.inl rfl, by decide, by decide⟩ | exact ⟨rfl, Or.inr (Or.inl rfl), by decide, by decide⟩ | exact ⟨rfl, Or.inr (Or.inr rfl), by decide, by decide⟩
      apply q_cons
      apply q_tupA
      apply q_cons
      apply q_var (i := 9)
      with_unfolding_all first | exact ⟨rfl, Or.inl rfl, by decide, by decide⟩ | exact ⟨rfl, Or.inr (Or.inl rfl), by decide, by decide⟩ | exact ⟨rfl, Or.inr (Or.inr rfl), by decide, by decide⟩
      apply q_cons
      apply q_ct
      apply q_cons
      apply q_var (i := 9)
      with_unfolding_all first | exact ⟨rfl, Or.inl rfl, by decide, by decide⟩ | exact ⟨rfl, Or.inr (Or.inl rfl), by decide, by decide⟩ | exact ⟨rfl, Or.inr (Or.inr rfl), by decide, by decide⟩
      apply q_nil
      with_unfolding_all exact rfl
      with_unfolding_all exact ⟨klistB (K := K) rfl, Z.list, bb_list, rfl, rfl, by decide, by decide⟩
      apply q_nil
      with_unfolding_all exact rfl
      with_unfolding_all exact rfl
      apply q_nil
      with_unfolding_all exact rfl
      with_unfolding_all exact ⟨rfl, mt_append, PySem.F.plainAttrs_list, PySem.F.slot_list_append, PySem.F.type_list_append, rfl, rfl, rfl, rfl⟩
      with_unfolding_all exact rfl
      with_unfolding_all exact ⟨PassesOwn.never, rfl, fun _ => rfl⟩
      apply q_then
      apply q_if
      apply q_tcmp
      apply q_meth0
      apply q_var (i := 0)
      with_unfolding_all first | exact ⟨rfl, Or.inl rfl, by decide, by decide⟩ | exact ⟨rfl, Or.inr (Or.inl rfl), by decide, by decide⟩ | exact ⟨rfl, Or.inr (Or.inr rfl), by decide, by decide⟩
      with_unfolding_all exact ⟨M_work, hr.mono (by decide), passes_none, rfl⟩
      apply q_non
      with_unfolding_all exact ⟨op_notN, nomark _⟩
      apply q_then
      apply q_set (i := 10)
      apply q_ix
      apply q_meth0
      apply q_var (i := 0)
      with_unfolding_all first | exact ⟨rfl, Or.inl rfl, by decide, by decide⟩ | exact ⟨rfl, Or.inr (Or.inl rfl), by decide, by decide⟩ | exact ⟨rfl, Or.inr (Or.inr rfl), by decide, by decide⟩
      with_unfolding_all exact ⟨M_work, hr.mono (by decide), passes_none, rfl⟩
      apply q_int
      with_unfolding_all exact ⟨kix (K := K) rfl, fun _ _ => rfl⟩
      with_unfolding_all exact ⟨nd, rfl, Or.inl rfl, rfl, Or.inl rfl⟩
      apply q_last
      apply q_expr
      apply q_bm (K := K)
      apply q_var (i := 4)
      with_unfolding_all first | exact ⟨rfl, Or.inl rfl, by decide, by decide⟩ | exact ⟨rfl, Or.inr (Or.inl rfl), by decide, by decide⟩ | exact ⟨rfl, Or.inr (Or.inr rfl), by decide, by decide⟩
      apply q_cons
      apply q_tupA
      apply q_cons
      apply q_var (i := 10)
      with_unfolding_all first | exact ⟨rfl, Or.inl rfl, by decide, by decide⟩ | exact ⟨rfl, Or.inr (Or.inl rfl), by decide, by decide⟩ | exact ⟨rfl, Or.inr (Or.inr rfl), by decide, by decide⟩
      apply q_cons
      apply q_ct
      apply q_cons
      apply q_var (i := 10)
      with_unfolding_all first | exact ⟨rfl, Or.inl rfl, by decide, by decide⟩ | exact ⟨rfl, Or.inr (Or.inl rfl), by decide, by decide⟩ | exact ⟨rfl, Or.inr (Or.inr rfl), by decide, by decide⟩
      apply q_nil
      with_unfolding_all exact rfl
      with_unfolding_all exact ⟨klistB (K := K) rfl, Z.list, bb_list, rfl, rfl, by decide, by decide⟩
      apply q_nil
      with_unfolding_all exact rfl
      with_unfolding_all exact rfl
      apply q_nil
      with_unfolding_all exact rfl
      with_unfolding_all exact ⟨rfl, mt_append, PySem.F.plainAttrs_list, PySem.F.slot_list_append, PySem.F.type_list_append, rfl, rfl, rfl, rfl⟩
      with_unfolding_all exact rfl
      apply q_end
      apply q_last
      apply q_ret
      apply q_ct
      apply q_cons
      apply q_var (i := 6)
      with_unfolding_all first | exact ⟨rfl, Or.inl rfl, by decide, by decide⟩ | exact ⟨rfl, Or.inr (Or.inl rfl), by decide, by decide⟩ | exact ⟨rfl, Or.inr (Or.inr rfl), by decide, by decide⟩
      apply q_nil
      with_unfolding_all exact rfl
      with_unfolding_all exact ⟨klistB (K := K) rfl, Z.list, bb_list, rfl, rfl, by decide, by decide⟩
    have sz2 : 2 ≤ sizeLine := by decide
    have sz3 : 3 ≤ sizeLine := by decide
    obtain ⟨dx, vf, vw, qs, r⟩ := hH.raw
    have alH : ∀ C : Hp, ∀ st', HomeAt cH C a pS st' → (∃ xs, C pK = some (.lst xs)) → ∀ x ∈ [a, pS, pK], C x ≠ none := fun C st' h' ⟨xs, e⟩ x hx => by
      obtain ⟨_, _, _, _, r'⟩ := h'.raw
      simp only [List.mem_cons, List.not_mem_nil, or_false] at hx
      rcases hx with rfl | rfl | rfl
      · rw [r'.obj]
        exact fun z => nomatch z
      · rw [r'.lst]
        exact fun z => nomatch z
      · rw [e]
        exact fun z => nomatch z
    refine ⟨_, rfl, _, rfl, _, rfl, _, rfl, a, pS, st, ln, c, n, k, rfl, hH, g, hk, n64, by omega, (fun hn H1 s1 => ?_), fun l hl p5 H1 s1 hl1 => ?_⟩
    · dsimp only [gName]
      refine ⟨_, rfl, rfl, _, rfl, iteD (fun _ => ?_) (fun z => absurd rfl z)⟩
      refine ⟨Nat.zero_le _, fun p2 H2 n2 => ?_⟩
      have s2 := s1.trans n2.2.1
      have ec : comeL st ln k c = (st, []) := by
        unfold comeL
        rw [hn]
      rw [ec] at kk
      refine kk p2 [] H2 [] (SB.of s2) (s1.free n2.1) (hH.keep s2) n2.2.2 .nil (by rw [List.append_nil]; exact s2 _ _ eK) (Nat.zero_le _) ?_
      rw [List.append_nil]
      exact hh.sb (SB.of (xs := []) s2) (fun x hx => by cases hx) s2.kt
    dsimp only [gName]
    refine st_norm (σ' := [some (.ref a), some (.int ln), some (.int ((k : Nat) : Int)), some (.int c), some (.ref pK), some (.ref p5), none, none, none, none, none]) rfl ?_
    refine ⟨_, rfl, rfl, _, rfl, iteD (fun z => nomatch z) (fun _ => ?_)⟩
    refine next_ ?_
    have ec : comeM st l = comeL st ln k c := by
      unfold comeL
      rw [hl]
    have mc := may_F g hk hl
    have gd := mc.good
    rw [ec] at gd
    have h1 := hH.keep s1
    have r1 := r.keep s1
    refine ⟨_, rfl, a, _, dx, _, [], _, rfl, r1.obj, (by kernel_rfl), ⟨rfl, rfl, rfl⟩, _, rfl, use_come2 h1 hl1 mc.aw mc.kw (by omega) ec fun p6 ps6 H2 sb2 hp6 h2 e6 l6 => ?_⟩
    dsimp only [gName]
    have k12 := h1.kt sb2
    have eK2 : H2 pK = some (.lst (ts.map V.ref)) := sb2 _ _ (s1 _ _ eK) fun z => by
      simp only [List.mem_cons, List.not_mem_nil, or_false] at z
      rcases z with z | z
      · have := r.obj
        rw [← z, eK] at this
        cases this
      · exact nK z
    have hh2 : Helds H2 no ts := (hh.sb (SB.of (xs := []) s1) (fun x hx => by cases hx) s1.kt).sb sb2 (fun x hx => by
      simp only [List.mem_cons, List.not_mem_nil, or_false] at hx
      rcases hx with rfl | rfl
      · exact ia
      · exact iS) k12
    have sbT2 : SB [a, pS, pK] H H2 := (SB.of s1).trans (sb_mono sb2 (by simp))
    have f6 : H p6 = none := s1.free hp6
    generalize comeL st ln k c = res at kk gd h2 l6 ec
    obtain ⟨st2, out⟩ := res
    dsimp only at kk gd h2 l6
    obtain ⟨gd1, gd2, gd3⟩ := gd
    dsimp only at gd1 gd2 gd3
    obtain ⟨dx2, vf2, vw2, qs2, r2⟩ := h2.raw
    refine ⟨_, rfl, a, _, dx2, _, [], _, rfl, r2.obj, (by kernel_rfl), ⟨rfl, rfl, rfl⟩, a, pS, st2, rfl, h2, fun p7 qs7 H3 n3 l7 => ?_⟩
    dsimp only [gName]
    have h3 := h2.keep n3.2.1
    have r3 := r2.keep n3.2.1
    refine ⟨_, rfl, a, _, dx2, _, [], _, rfl, r3.obj, (by kernel_rfl), ⟨rfl, rfl, rfl⟩, a, pS, st2, rfl, h3, fun p8 q8 H4 s4 hp8 hq8 e8 f8 => .inr (.inl ⟨p8, _, _, _, rfl, rfl, SqT.of e8, rfl, ?_⟩)⟩
    dsimp only [gName]
    refine st_norm (σ' := [some (.ref a), some (.int ln), some (.int ((k : Nat) : Int)), some (.int c), some (.ref pK), some (.ref p5), some (.ref p6), some (.ref p7), some (.ref q8), none, none]) rfl ?_
    have s24 := n3.2.1.trans s4
    refine .inl ⟨_, rfl, _, rfl, _, rfl, sz3, fun pl H5 n5 => ?_⟩
    have s25 := s24.trans n5.2.1
    have s45 := n5.2.1
    have al2 : ∀ x ∈ no, H2 x ≠ none := al_sb hno sbT2 (alH H2 _ h2 ⟨_, eK2⟩)
    have ne_no : ∀ p, H2 p = none → p ∉ no := fun p hp z => al2 p z hp
    have n6 : p6 ∉ no := fun z => hno p6 z f6
    have n7 : p7 ∉ no := ne_no p7 n3.1
    have n8 : q8 ∉ no := ne_no q8 (n3.2.1.free hq8)
    have e65 := s25 _ _ e6
    have e75 := (s4.trans s45) _ _ n3.2.2
    have f85 := s45 _ _ f8
    have v6 : HeldV H5 (ps6.map V.ref) := .inl ⟨ps6, out, rfl, l6.kt s25.kt, fun l hl => near_isw (gd2 l hl)⟩
    have v7 : HeldV H5 (qs7.map V.ref) := .inl ⟨qs7, st2.row, rfl, l7.kt (s4.trans s45).kt, fun l hl => ask_isw (gd1.g0.row l hl).1⟩
    have v8 : HeldV H5 (natV (inS st2.rd)) := .inr (.inl ⟨_, rfl⟩)
    have eK5 := s25 _ _ eK2
    have hh5 : Helds H5 no ts := hh2.sb (SB.of (xs := []) s25) (fun x hx => by cases hx) s25.kt
    have al5 : ∀ x ∈ no, H5 x ≠ none := fun x hx z => al2 x hx (s25.free z)
    have sbT5 : SB [a, pS, pK] H H5 := sbT2.trans (SB.of s25)
    have h5 := h2.keep s25
    have nlK : pl ≠ pK := fun z => by
      have := n5.1
      rw [z, s24 _ _ eK2] at this
      cases this
    have keep : ∀ (C : Hp) (p : Addr) (xs : List V), SB [pK] H5 C → p ≠ pK → H5 p = some (.lst xs) → C p = some (.lst xs) := fun C p xs s n e => s _ _ e fun z => n (List.mem_singleton.mp z)
    refine ⟨pl, rfl, ⟨_, SqL.of n5.2.2⟩, for_list (K := K) (a := pl) (xs := [V.ref p6, V.ref p7, V.ref q8]) (fun i σ C => ∃ us v9, σ = [some (.ref a), some (.int ln), some (.int ((k : Nat) : Int)), some (.int c), some (.ref pK), some (.ref p5), some (.ref p6), some (.ref p7), some (.ref q8), v9, none] ∧ us.length = i ∧ SB [pK] H5 C ∧ C pK = some (.lst ((ts ++ us).map V.ref)) ∧ Helds C no (ts ++ us) ∧ ∀ x ∈ no, C x ≠ none) ⟨[], none, rfl, rfl, SB.refl _, by rw [List.append_nil]; exact eK5, by rw [List.append_nil]; exact hh5, al5⟩ (fun i σ C _ h => by
      obtain ⟨us, v9, _, _, s, _⟩ := h
      exact SqL.of (keep C pl _ s nlK n5.2.2)) ?_ ?_⟩
    · rintro i x σ C hx ⟨us, v9, rfl, hi, sC, eC, hC, alC⟩
      have h3x : ∃ px xs, x = .ref px ∧ H5 px = some (.lst xs) ∧ HeldV H5 xs ∧ px ∉ no := by
        match i, hx with
        | 0, hx => exact ⟨p6, _, (Option.some.inj hx).symm, e65, v6, n6⟩
        | 1, hx => exact ⟨p7, _, (Option.some.inj hx).symm, e75, v7, n7⟩
        | 2, hx => exact ⟨q8, _, (Option.some.inj hx).symm, f85, v8, n8⟩
        | (j + 3), hx => simp at hx
      obtain ⟨px, xs, rfl, epx, vpx, npx⟩ := h3x
      dsimp only [gName]
      have kC := kt_pK eK5 sC
      have nxK : px ≠ pK := fun z => npx (by rw [z]; exact iK)
      have exC := keep C px xs sC nxK epx
      refine ⟨_, rfl, .inl ⟨rfl, _, SqL.of eC⟩, _, rfl, _, rfl, px, _, rfl, .inl (SqL.of exC), fun pc C1 m1 => ⟨sz2, fun pt C2 m2 => ⟨pK, _, _, rfl, rfl, (m1.2.1.trans m2.2.1) _ _ eC, ?_, ?_⟩⟩⟩
      · have hi3 : i < 3 := (List.getElem?_eq_some_iff.mp hx).1
        rw [List.length_map, List.length_append, hi]
        exact Nat.lt_of_le_of_lt (by omega : ts.length + i ≤ 4000) (by decide)
      obtain ⟨g1, g2, g3⟩ := hold_one iK alC eC hC exC (vpx.kt kC) npx m1 m2
      generalize L2.upd C2 pK (.lst ((ts ++ us).map V.ref ++ [V.ref pt])) = C3 at g1 g2 g3 ⊢
      rw [List.append_assoc] at g2 g3
      exact ⟨us ++ [pt], _, rfl, by rw [List.length_append, hi]; rfl, sC.trans g1, g2, g3, al_sb alC g1 (fun x hx => by rw [List.mem_singleton.mp hx, g2]; exact fun z => nomatch z)⟩
    · rintro σ C ⟨us, v9, rfl, hi, sC, eC, hC, alC⟩
      replace hi : us.length = 3 := hi
      have kC := kt_pK eK5 sC
      have nSK : pS ≠ pK := nK.symm
      have hCh : HomeAt cH C a pS st2 := by
        obtain ⟨dx5, vf5, vw5, qs5, r5⟩ := h5.raw
        refine RawH.at ⟨sC _ _ r5.obj fun z => ?_, r5.far.kt kC, r5.wk.kt kC, keep C pS _ sC nSK r5.lst, r5.row.kt kC⟩ h5.ok
        have := r5.obj
        rw [List.mem_singleton.mp z, eK5] at this
        cases this
      have e6C := keep C p6 _ sC (fun z => n6 (by rw [z]; exact iK)) e65
      have l6C := (l6.kt s25.kt).kt kC
      have sbTC : SB [a, pS, pK] H C := sbT5.trans (sb_mono sC (by simp))
      dsimp only
      refine cut (fun σ C => ∃ us v10, σ = [some (.ref a), some (.int ln), some (.int ((k : Nat) : Int)), some (.int c), some (.ref pK), some (.ref p5), some (.ref p6), some (.ref p7), some (.ref q8), v9, v10] ∧ us.length ≤ 4 ∧ SB [a, pS, pK] H C ∧ HomeAt cH C a pS st2 ∧ C p6 = some (.lst (ps6.map V.ref)) ∧ Lets C ps6 out ∧ C pK = some (.lst ((ts ++ us).map V.ref)) ∧ Helds C no (ts ++ us)) ?tl fun tl => ?hd
      case hd =>
        obtain ⟨dxC, vfC, vwC, qsC, rC⟩ := hCh.raw
        refine ⟨_, rfl, a, _, dxC, _, [], _, rfl, rC.obj, (by kernel_rfl), ⟨rfl, rfl, rfl⟩, ?_⟩
        refine use_workN hCh gd1 fun vK C1 s1' hv1 => ?_
        rcases hv1 with ⟨hw, rfl⟩ | ⟨w, x, p, q, D, ts1, hw, hx, rfl, e, lw, f, gg, hD⟩
        · refine ⟨rfl, _, rfl, iteND (fun z => absurd rfl z) (fun _ => next_ (tl _ _ ⟨us, none, rfl, by omega, sbTC.trans (SB.of s1'), hCh.keep s1', s1' _ _ e6C, l6C.kt s1'.kt, s1' _ _ eC, ?_⟩))⟩
          exact hC.sb (SB.of (xs := []) s1') (fun x hx => by cases hx) s1'.kt
        · refine ⟨rfl, _, rfl, iteND (fun _ => ?_) (fun z => nomatch z)⟩
          have hC1 := hCh.keep s1'
          refine ⟨_, rfl, a, _, dxC, _, [], _, rfl, (rC.keep s1').obj, (by kernel_rfl), ⟨rfl, rfl, rfl⟩, ?_⟩
          refine use_workN hC1 gd1 fun vK2 C2 s2' hv2 => ?_
          rcases hv2 with ⟨hw2, _⟩ | ⟨w2, x2, p2, q2, D2, ts2, hw2, hx2, rfl, e2, lw2, f2, gg2, hD2⟩
          · rw [hw] at hw2
            cases hw2
          refine .inr (.inl ⟨p2, _, _, _, rfl, rfl, SqT.of e2, rfl, ?_⟩)
          dsimp only [gName]
          have sC2 := s1'.trans s2'
          have eC2 := sC2 _ _ eC
          have alC2 : ∀ x ∈ no, C2 x ≠ none := fun x hx z => alC x hx (sC2.free z)
          have nD : D2 ∉ no := fun z => alC D2 z (s1'.free hD2)
          obtain ⟨_, x', ex', hax'⟩ := gd1.wk w2 hw2
          obtain rfl : x2 = x' := Option.some.inj (hx2.symm.trans ex')
          refine ⟨_, rfl, .inl ⟨rfl, _, SqL.of eC2⟩, _, rfl, _, rfl, D2, _, rfl, .inl (SqL.of f2), fun pc C3 m1 => ⟨sz2, fun pt C4 m2 => ⟨pK, _, _, rfl, rfl, (m1.2.1.trans m2.2.1) _ _ eC2, ?_, ?_⟩⟩⟩
          · rw [List.length_map, List.length_append, hi]
            exact Nat.lt_of_le_of_lt (by omega : ts.length + 3 ≤ 4000) (by decide)
          have hC2 : Helds C2 no (ts ++ us) := hC.sb (SB.of (xs := []) sC2) (fun x hx => by cases hx) sC2.kt
          obtain ⟨g1, g2, g3⟩ := hold_one iK alC2 eC2 hC2 f2 (.inr (.inr ⟨x2, ts2, _, rfl, gg2, ans_isw hax'⟩)) nD m1 m2
          generalize L2.upd C4 pK (.lst ((ts ++ us).map V.ref ++ [V.ref pt])) = C5 at g1 g2 g3 ⊢
          rw [List.append_assoc] at g2 g3
          have k25 := kt_pK eC2 g1
          refine tl _ _ ⟨us ++ [pt], _, rfl, by rw [List.length_append, hi]; exact Nat.le_refl _, sbTC.trans ((SB.of sC2).trans (sb_mono g1 (by simp))), ?_, g1 _ _ (sC2 _ _ e6C) (fun z => n6 (by rw [List.mem_singleton.mp z]; exact iK)), (l6C.kt sC2.kt).kt k25, g2, g3⟩
          obtain ⟨dx9, vf9, vw9, qs9, r9⟩ := (hCh.keep sC2).raw
          refine RawH.at ⟨g1 _ _ r9.obj fun z => ?_, r9.far.kt k25, r9.wk.kt k25, g1 _ _ r9.lst (fun z => nSK (List.mem_singleton.mp z)), r9.row.kt k25⟩ hCh.ok
          have := r9.obj
          rw [List.mem_singleton.mp z, eC2] at this
          cases this
      clear hCh e6C l6C sbTC eC hC
      rintro σ C ⟨us, v10, rfl, hus, sbC, hCh, e6C, l6C, eC, hC⟩
      refine ⟨_, rfl, p6, _, rfl, .inl (SqL.of e6C), fun pr C9 m9 => ?_⟩
      have s9 := m9.2.1
      exact kk pr ps6 C9 us (sbC.trans (SB.of s9)) (free_sb sbC (alH C _ hCh ⟨_, eC⟩) m9.1) (hCh.keep s9) m9.2.2 (l6C.kt s9.kt) (s9 _ _ eC) hus (hC.sb (SB.of (xs := []) s9) (fun x hx => by cases hx) s9.kt)
theorem scHeld : FnScope ["_law_held_here", "_law_sent", "_law_kept"] ["_law_held_here"] (defScope sHeld) := ⟨rfl, rfl, rfl, by decide +kernel, rfl, by decide +kernel, by decide +kernel⟩
theorem ok_Held {f : Addr} {fd : FuncData} (F : Fun K "_law_held" "_law_held" sHeld f fd) (Z : Bl mg)   :
    FnOk P w K mg base CX0 1 f fd ["_law_held_here"] spHeld := by
  refine F.ok scHeld (fun vs H Q E h => ?_) (fun cdv A outer s H vs Q E hr h => ?_)
  · obtain ⟨pK, no, ts, rfl, _⟩ := h
    rfl
  · obtain ⟨pK, no, ts, rfl, eK, hh, kk⟩ := h
    have nd := scHeld.nd
    apply body_of
    (conv => arg 2; whnf)
    with_reducible
      apply q_then
      apply q_for
      apply q_iseq (K := K)
      apply q_var (i := 0)
      with_unfolding_all first | exact ⟨rfl, Or.inl rfl, by decide, by decide⟩ | exact ⟨rfl, Or.inr (Or.inl rfl), by decide, by decide⟩ | exact ⟨rfl, Or.inr (Or.inr rfl), by decide, by decide⟩
      with_unfolding_all exact rfl
      apply q_gtup (K := K)
      apply q_gcons
      apply q_name (i := 1)
      with_unfolding_all exact ⟨nd, rfl, Or.inl rfl, Or.inl rfl⟩
      apply q_gcons
      apply q_name (i := 2)
      with_unfolding_all exact ⟨nd, rfl, Or.inl rfl, Or.inl rfl⟩
      apply q_gnil
      with_unfolding_all exact rfl
      with_unfolding_all exact rfl
      with_unfolding_all exact ⟨rfl, rfl, rfl⟩
      apply q_last
      apply q_if
      apply q_bool
      apply q_wor
      apply q_tnot
      apply q_tv
      apply q_isT (K := K)
      apply q_var (i := 1)
      with_unfolding_all first | exact ⟨rfl, Or.inl rfl, by decide, by decide⟩ | exact ⟨rfl, Or.inr (Or.inl rfl), by decide, by decide⟩ | exact ⟨rfl, Or.inr (Or.inr rfl), by decide, by decide⟩
      with_unfolding_all exact ⟨rfl, Z.isinstance, Z.list, bb_list, rfl, rfl, rfl, by decide, by decide⟩
      with_unfolding_all exact fun _ => rfl
      apply q_wor1
      apply q_tcmp
      apply q_var (i := 1)
      with_unfolding_all first | exact ⟨rfl, Or.inl rfl, by decide, by decide⟩ | exact ⟨rfl, Or.inr (Or.inl rfl), by decide, by decide⟩ | exact ⟨rfl, Or.inr (Or.inr rfl), by decide, by decide⟩
      apply q_var (i := 2)
      with_unfolding_all first | exact ⟨rfl, Or.inl rfl, by decide, by decide⟩ | exact ⟨rfl, Or.inr (Or.inl rfl), by decide, by decide⟩ | exact ⟨rfl, Or.inr (Or.inr rfl), by decide, by decide⟩
      with_unfolding_all exact ⟨kne (K := K) rfl hr.units, nomark _⟩
      apply q_last
      apply q_ret
      apply q_bl
      apply q_end
      with_unfolding_all exact ⟨PassesOwn.never, rfl, fun _ => rfl⟩
      apply q_last
      apply q_ret
      apply q_bl
    refine .inl ⟨_, rfl, pK, rfl, ⟨_, SqL.of eK⟩, for_list (K := K) (a := pK) (xs := ts.map V.ref) (fun i σ C => C = H ∧ ∃ v1 v2, σ = [some (.ref pK), v1, v2]) ⟨rfl, none, none, rfl⟩ (fun i σ C _ h => by rw [h.1]; exact SqL.of eK) ?_ ?_⟩
    · rintro i x σ C hx ⟨hC, v1, v2, rfl⟩
      obtain ⟨t, ht, rfl⟩ := List.mem_map.mp (List.mem_of_getElem? hx)
      obtain ⟨p, q, xs, r⟩ := hh t ht
      subst hC
      refine ⟨t, _, rfl, SqT.of r.e, rfl, _, _, rfl, _, _, rfl, rfl, ?_⟩
      dsimp only [gName]
      obtain ⟨ds, hr1, hs1⟩ := r.v.rep (K := K)
      refine ⟨_, rfl, _, "list", "list", rfl, by simp, .lst r.ep, true, rfl, iteF ?_⟩
      exact ⟨_, rfl, _, rfl, rNeA.same (show Shp 3 (.list ds) from .lst hs1) (by decide) (.lst (SqL.of r.ep) hr1) (.lst (SqL.of r.eq) hr1) ⟨false, rfl, iteF ⟨rfl, _, _, rfl⟩⟩⟩
    · rintro σ C ⟨rfl, v1, v2, rfl⟩
      exact kk _ (Same.refl _)
theorem scPlace : FnScope ["_law_script", "_law_first"] ["_law_script", "_law_first"] (defScope sPlace) := ⟨rfl, rfl, rfl, by decide +kernel, rfl, by decide +kernel, by decide +kernel⟩
theorem ok_Place {f : Addr} {fd : FuncData} (F : Fun K "_law_place" "_law_place" sPlace f fd) (Z : Bl mg)   :
    FnOk P w K mg base CX0 1 f fd ["_law_script", "_law_first"] (spPlace K) := by
  refine F.ok scPlace (fun vs H Q E h => ?_) (fun cdv A outer s H vs Q E hr h => ?_)
  · obtain ⟨a, ns, c, rfl, _⟩ := h
    rfl
  · obtain ⟨a, ns, c, rfl, hS, kk⟩ := h
    have nd := scPlace.nd
    apply body_of
    (conv => arg 2; whnf)
    with_reducible
      apply q_last
      apply q_ret
      apply q_op
      apply q_op
      apply q_var (i := 1)
      with_unfolding_all first | exact ⟨rfl, Or.inl rfl, by decide, by decide⟩ | exact ⟨rfl, Or.inr (Or.inl rfl), by decide, by decide⟩ | exact ⟨rfl, Or.inr (Or.inr rfl), by decide, by decide⟩
      apply q_int
      with_unfolding_all exact op_fdiv
      apply q_cb
      apply q_cons
      apply q_int
      apply q_cons
      apply q_cb
      apply q_cons
      apply q_cb
      apply q_cons
      apply q_var (i := 0)
      with_unfolding_all first | exact ⟨rfl, Or.inl rfl, by decide, by decide⟩ | exact ⟨rfl, Or.inr (Or.inl rfl), by decide, by decide⟩ | exact ⟨rfl, Or.inr (Or.inr rfl), by decide, by decide⟩
      apply q_nil
      with_unfolding_all exact rfl
      with_unfolding_all exact ⟨klen (K := K) rfl, Z.len, bb_len, rfl, rfl, by decide, by decide⟩
      apply q_cons
      apply q_int
      apply q_nil
      with_unfolding_all exact rfl
      with_unfolding_all exact rfl
      with_unfolding_all exact ⟨call_min2 rfl, Z.min, bb_min, rfl, rfl, by decide, by decide⟩
      apply q_nil
      with_unfolding_all exact rfl
      with_unfolding_all exact rfl
      with_unfolding_all exact ⟨call_max2 rfl, Z.max, bb_max, rfl, rfl, by decide, by decide⟩
      with_unfolding_all exact op_mod
    have hpos : (0 : Int) < (if (if (24 : Int) < (((ns.map V.int).length : Nat) : Int) then (24 : Int) else (((ns.map V.int).length : Nat) : Int)) > (1 : Int) then (if (24 : Int) < (((ns.map V.int).length : Nat) : Int) then (24 : Int) else (((ns.map V.int).length : Nat) : Int)) else (1 : Int)) := by
      split <;> omega
    refine ⟨_, rfl, _, _, rfl, rfl, ⟨by decide, by decide⟩, _, rfl, .inl ⟨a, _, rfl, .inl hS, _, _, rfl, _, _, rfl, _, _, rfl, rfl, hpos, ?_⟩⟩
    have := Int.emod_nonneg (c / 64) (Int.ne_of_gt hpos)
    obtain ⟨m, hm⟩ := Int.eq_ofNat_of_zero_le this
    dsimp only
    rw [hm]
    exact kk m
end
end K36

set_option Elab.async false
set_option linter.all false
set_option maxRecDepth 100000
set_option maxHeartbeats 1000000
namespace K36
open PySem L2
section
variable {P : Program} {w : World} {K : PySem.W.Frag} {mg : Str → Option Value} {base : Heap} {cH aA cU : Addr}

theorem mod_nat (z : Int) {n : Nat} (h : 0 < n) : ∃ k : Nat, z % ((n : Nat) : Int) = ((k : Nat) : Int) ∧ k < n := by
  have a := Int.emod_nonneg z (by omega : ((n : Nat) : Int) ≠ 0)
  have b := Int.emod_lt_of_pos z (by omega : (0 : Int) < ((n : Nat) : Int))
  exact ⟨(z % ((n : Nat) : Int)).toNat, by omega, by omega⟩
theorem cut_ints (ns : List Int) (lo hi : Option Int) : ∃ ms : List Int, cutV (ns.map V.int) lo hi = ms.map V.int ∧ ms.length ≤ ns.length := by
  refine ⟨(ns.drop (HT.sIx (ns.map V.int).length 0 lo)).take (HT.sIx (ns.map V.int).length (ns.map V.int).length hi - HT.sIx (ns.map V.int).length 0 lo), ?_, ?_⟩
  · unfold cutV
    rw [List.map_take, List.map_drop]
  · rw [List.length_take, List.length_drop]
    omega
theorem none_ne {H : Hp} {p q : Addr} {o : HO} (h1 : H p = none) (h2 : H q = some o) : p ≠ q := fun z => by
  rw [z, h2] at h1
  cases h1
theorem ne_lets {H : Hp} {p1 p2 : Addr} {qs1 qs2 : List Addr} {ls : List Ltr} {Q : VK} (hw : ∀ l ∈ ls, IsWord l.word) (e1 : H p1 = some (.lst (qs1.map V.ref))) (l1 : Lets H qs1 ls) (e2 : H p2 = some (.lst (qs2.map V.ref))) (l2 : Lets H qs2 ls) (q : Q (.bl false) H) : rNeA K (.ref p1) (.ref p2) H Q :=
  rNeA.same (lets_shp hw) (by decide) (lets_rep e1 l1) (lets_rep e2 l2) q
theorem kt_hpk {C C' : Hp} {h pS pK : Addr} {st : Hm} {xs : List V} (hH : HomeAt cH C h pS st) (eK : C pK = some (.lst xs)) (s : SB [h, pS, pK] C C') : KTup C C' := fun b ys e => s _ _ e fun z => by
  obtain ⟨dx, vf, vw, qs, r⟩ := hH.raw
  simp only [List.mem_cons, List.not_mem_nil, or_false] at z
  rcases z with z | z | z
  · rw [z, r.obj] at e
    cases e
  · rw [z, r.lst] at e
    cases e
  · rw [z, eK] at e
    cases e
theorem home_out {C C' : Hp} {o pO : Addr} {st : Hm} {xs : List Addr} (hH : HomeAt cH C o pO st) (s : SB xs C C') (k : KTup C C') (n1 : o ∉ xs) (n2 : pO ∉ xs) : HomeAt cH C' o pO st := by
  obtain ⟨dx, vf, vw, qs, r⟩ := hH.raw
  exact RawH.at ⟨s _ _ r.obj n1, r.far.kt k, r.wk.kt k, s _ _ r.lst n2, r.row.kt k⟩ hH.ok
theorem home_some {C : Hp} {h pS : Addr} {st : Hm} (hH : HomeAt cH C h pS st) : (∃ x, C h = some x) ∧ ∃ x, C pS = some x := by
  obtain ⟨dx, vf, vw, qs, r⟩ := hH.raw
  exact ⟨⟨_, r.obj⟩, ⟨_, r.lst⟩⟩
theorem home_lst {C : Hp} {h pS p : Addr} {st : Hm} {xs : List V} (hH : HomeAt cH C h pS st) (e : C p = some (.lst xs)) : p ≠ h := fun z => by
  obtain ⟨dx, vf, vw, qs, r⟩ := hH.raw
  rw [z, r.obj] at e
  cases e
theorem some_ne {C : Hp} {x : Addr} (h : ∃ o, C x = some o) : C x ≠ none := fun z => by
  obtain ⟨o, e⟩ := h
  rw [e] at z
  cases z
/-- the two homes, the lists that are held -/
structure TW (cH : Addr) (C : Hp) (h pS o pO pK : Addr) (ln : Int) (n m : Nat) (st st' : Hm) (ts : List Addr) : Prop where
  h1 : HomeAt cH C h pS st
  h2 : HomeAt cH C o pO st'
  g1 : Gd ln n st
  g2 : Gd ln n st'
  l1 : st.row.length ≤ m
  l2 : st'.row.length ≤ m
  eK : C pK = some (.lst (ts.map V.ref))
  lt : ts.length ≤ 8 * m
  hh : Helds C [h, pS, o, pO, pK] ts
  nKS : pK ≠ pS
  nKO : pK ≠ pO
  nSO : pS ≠ pO
  nho : h ≠ o
section
variable {C C' : Hp} {h pS o pO pK : Addr} {ln : Int} {n m : Nat} {st st' : Hm} {ts : List Addr}
theorem TW.al (t : TW cH C h pS o pO pK ln n m st st' ts) : ∀ x ∈ [h, pS, o, pO, pK], C x ≠ none := fun x hx => by
  simp only [List.mem_cons, List.not_mem_nil, or_false] at hx
  rcases hx with rfl | rfl | rfl | rfl | rfl
  · exact some_ne (home_some t.h1).1
  · exact some_ne (home_some t.h1).2
  · exact some_ne (home_some t.h2).1
  · exact some_ne (home_some t.h2).2
  · exact some_ne ⟨_, t.eK⟩
theorem TW.keep (t : TW cH C h pS o pO pK ln n m st st' ts) (s : Same C C') : TW cH C' h pS o pO pK ln n m st st' ts :=
  ⟨t.h1.keep s, t.h2.keep s, t.g1, t.g2, t.l1, t.l2, s _ _ t.eK, t.lt, t.hh.sb (SB.of (xs := []) s) (fun x hx => by cases hx) s.kt, t.nKS, t.nKO, t.nSO, t.nho⟩
theorem TW.kt1 (t : TW cH C h pS o pO pK ln n m st st' ts) (s : SB [h, pS, pK] C C') : KTup C C' := kt_hpk t.h1 t.eK s
theorem TW.kt2 (t : TW cH C h pS o pO pK ln n m st st' ts) (s : SB [o, pO, pK] C C') : KTup C C' := kt_hpk t.h2 t.eK s
theorem TW.ins (t : TW cH C h pS o pO pK ln n m st st' ts) : h ≠ pO ∧ h ≠ pK ∧ o ≠ pS ∧ o ≠ pK := by
  obtain ⟨dx, vf, vw, qs, r⟩ := t.h1.raw
  obtain ⟨dx', vf', vw', qs', r'⟩ := t.h2.raw
  exact ⟨(home_lst t.h1 r'.lst).symm, (home_lst t.h1 t.eK).symm, (home_lst t.h2 r.lst).symm, (home_lst t.h2 t.eK).symm⟩
theorem TW.come1 {us : List Addr} {st2 : Hm} (t : TW cH C h pS o pO pK ln n m st st' ts) (s : SB [h, pS, pK] C C') (hs : HomeAt cH C' h pS st2) (g : Gd ln n st2) (l : st2.row.length ≤ m + 1) (eK : C' pK = some (.lst ((ts ++ us).map V.ref))) (lu : us.length ≤ 4) (hh : Helds C' [h, pS, o, pO, pK] (ts ++ us)) : TW cH C' h pS o pO pK ln n (m + 1) st2 st' (ts ++ us) := by
  obtain ⟨i1, i2, i3, i4⟩ := t.ins
  refine ⟨hs, home_out t.h2 s (t.kt1 s) (fun z => ?_) (fun z => ?_), g, t.g2, l, Nat.le_succ_of_le t.l2, eK, by rw [List.length_append]; have := t.lt; omega, hh, t.nKS, t.nKO, t.nSO, t.nho⟩
  · simp only [List.mem_cons, List.not_mem_nil, or_false] at z
    rcases z with z | z | z
    · exact t.nho z.symm
    · exact i3 z
    · exact i4 z
  · simp only [List.mem_cons, List.not_mem_nil, or_false] at z
    rcases z with z | z | z
    · exact i1 z.symm
    · exact t.nSO z.symm
    · exact t.nKO z.symm
theorem TW.come2 {us : List Addr} {st2 : Hm} (t : TW cH C h pS o pO pK ln n m st st' ts) (s : SB [o, pO, pK] C C') (hs : HomeAt cH C' o pO st2) (g : Gd ln n st2) (l : st2.row.length ≤ m + 1) (eK : C' pK = some (.lst ((ts ++ us).map V.ref))) (lu : us.length ≤ 4) (hh : Helds C' [h, pS, o, pO, pK] (ts ++ us)) : TW cH C' h pS o pO pK ln n (m + 1) st st2 (ts ++ us) := by
  obtain ⟨i1, i2, i3, i4⟩ := t.ins
  refine ⟨home_out t.h1 s (t.kt2 s) (fun z => ?_) (fun z => ?_), hs, t.g1, g, Nat.le_succ_of_le t.l1, l, eK, by rw [List.length_append]; have := t.lt; omega, hh, t.nKS, t.nKO, t.nSO, t.nho⟩
  · simp only [List.mem_cons, List.not_mem_nil, or_false] at z
    rcases z with z | z | z
    · exact t.nho z
    · exact i1 z
    · exact i2 z
  · simp only [List.mem_cons, List.not_mem_nil, or_false] at z
    rcases z with z | z | z
    · exact i3 z.symm
    · exact t.nSO z
    · exact t.nKS z.symm
theorem TW.use1 {σ : St} {Q : VK} {E : XK} {k : Nat} {c : Int} (t : TW cH C h pS o pO pK ln n m st st' ts) (hk : k < n) (n64 : n ≤ 64) (hm : m ≤ 300) (kk : ∀ p ps C' us, SB [h, pS, pK] C C' → C p = none → C' p = some (.lst (ps.map V.ref)) → Lets C' ps (comeL st ln k c).2 → TW cH C' h pS o pO pK ln n (m + 1) (comeL st ln k c).1 st' (ts ++ us) → Q (.ref p) C') : tNil σ C (fun xs H2 => spComeL cH (V.ref h :: V.int ln :: V.int ((k : Nat) : Int) :: V.int c :: V.ref pK :: xs ++ []) H2 Q E) := by
  have gd := comeL_good (c := c) t.g1 hk
  have l1 := t.l1
  have lt := t.lt
  refine ⟨h, pS, pK, st, ln, c, n, k, [h, pS, o, pO, pK], ts, rfl, t.h1, t.g1, hk, n64, by omega, t.nKS, t.eK, by omega, t.hh, by simp, by simp, by simp, t.al, fun p ps C' us sb hp hs ep lp eK lu hh => kk p ps C' us sb hp ep lp (t.come1 sb hs gd.1 ?_ eK lu hh)⟩
  have := gd.2.2
  omega
theorem TW.use2 {σ : St} {Q : VK} {E : XK} {k : Nat} {c : Int} (t : TW cH C h pS o pO pK ln n m st st' ts) (hk : k < n) (n64 : n ≤ 64) (hm : m ≤ 300) (kk : ∀ p ps C' us, SB [o, pO, pK] C C' → C p = none → C' p = some (.lst (ps.map V.ref)) → Lets C' ps (comeL st' ln k c).2 → TW cH C' h pS o pO pK ln n (m + 1) st (comeL st' ln k c).1 (ts ++ us) → Q (.ref p) C') : tNil σ C (fun xs H2 => spComeL cH (V.ref o :: V.int ln :: V.int ((k : Nat) : Int) :: V.int c :: V.ref pK :: xs ++ []) H2 Q E) := by
  have gd := comeL_good (c := c) t.g2 hk
  have l2 := t.l2
  have lt := t.lt
  refine ⟨o, pO, pK, st', ln, c, n, k, [h, pS, o, pO, pK], ts, rfl, t.h2, t.g2, hk, n64, by omega, t.nKO, t.eK, by omega, t.hh, by simp, by simp, by simp, t.al, fun p ps C' us sb hp hs ep lp eK lu hh => kk p ps C' us sb hp ep lp (t.come2 sb hs gd.1 ?_ eK lu hh)⟩
  have := gd.2.2
  omega
theorem TW.see1 {σ : St} {Q : VK} {E : XK} (t : TW cH C h pS o pO pK ln n m st st' ts) (hm : m ≤ 300) (kk : ∀ p C', Same C C' → PicAt C' p st → Q (.ref p) C') : tNil σ C (fun xs H2 => spWhole cH (V.ref h :: xs ++ []) H2 Q E) := ⟨h, pS, st, ln, n, rfl, t.h1, t.g1, by have := t.l1; omega, kk⟩
theorem TW.see2 {σ : St} {Q : VK} {E : XK} (t : TW cH C h pS o pO pK ln n m st st' ts) (hm : m ≤ 300) (kk : ∀ p C', Same C C' → PicAt C' p st' → Q (.ref p) C') : tNil σ C (fun xs H2 => spWhole cH (V.ref o :: xs ++ []) H2 Q E) := ⟨o, pO, st', ln, n, rfl, t.h2, t.g2, by have := t.l2; omega, kk⟩
theorem TW.m2 {m' : Nat} (t : TW cH C h pS o pO pK ln n m st st' ts) (hm : m ≤ m') : TW cH C h pS o pO pK ln n m' st st' ts := ⟨t.h1, t.h2, t.g1, t.g2, Nat.le_trans t.l1 hm, Nat.le_trans t.l2 hm, t.eK, Nat.le_trans t.lt (by omega), t.hh, t.nKS, t.nKO, t.nSO, t.nho⟩
end
theorem scLaw : FnScope ["_law_script", "_law_first", "_law_many", "_law_line", "_law_home", "_law_held_here", "_law_cell", "_law_other", "_law_alike", "_law_told", "_law_beside", "_law_near", "_law_way", "_law_sent"] ["_law_script"] (defScope sLaw) := ⟨rfl, rfl, rfl, by decide +kernel, rfl, by decide +kernel, by decide +kernel⟩
theorem ok_Law {f : Addr} {fd : FuncData} (F : Fun K "law" "law" sLaw f fd) (Z : Bl mg) (C__law_place : CalD P w K mg base (CXE P w) 1 "_law_place" ["_law_script", "_law_first"] [] (spPlace K)) (C__law_come : CalD P w K mg base (CXE P w) 9 "_law_come" ["_law_home", "_law_line", "_law_near", "_law_cell", "_law_held_here"] [] (spComeL cH)) (C__law_whole_seen : CalD P w K mg base (CXE P w) 4 "_law_whole_seen" ["_law_home"] [] (spWhole cH)) (C__law_held : CalD P w K mg base (CXE P w) 1 "_law_held" ["_law_held_here"] [] spHeld) (M_twin : MS P w K mg base 3 (RR cH (spTwin cH)) "twin") (K_Home : MkOk P w K mg base (CXE P w) 1 "Home" cH [] (spHInit cH)) :
    FnOk P w K mg base CX0 10 f fd ["_law_script"] (spLaw K) := by
  refine F.ok scLaw (fun vs H Q E h => ?_) (fun cdv A outer s H vs Q E hr h => ?_)
  · obtain ⟨a, ns, rfl, _⟩ := h
    rfl
  · obtain ⟨a, ns, rfl, hS, hlen, kk⟩ := h
    have nd := scLaw.nd
    apply body_of
    (conv => arg 2; whnf)
    with_reducible
      apply q_then
      apply q_set (i := 1)
      apply q_int
      with_unfolding_all exact ⟨nd, rfl, Or.inl rfl, rfl, Or.inl rfl⟩
      apply q_then
      apply q_if
      apply q_tcmp
      apply q_cb
      apply q_cons
      apply q_var (i := 0)
      with_unfolding_all first | exact ⟨rfl, Or.inl rfl, by decide, by decide⟩ | exact ⟨rfl, Or.inr (Or.inl rfl), by decide, by decide⟩ | exact ⟨rfl, Or.inr (Or.inr rfl), by decide, by decide⟩
      apply q_nil
      with_unfolding_all exact rfl
      with_unfolding_all exact ⟨klen (K := K) rfl, Z.len, bb_len, rfl, rfl, by decide, by decide⟩
      apply q_int
      with_unfolding_all exact ⟨op_gt, nomark _⟩
      apply q_last
      apply q_set (i := 1)
      apply q_ix
      apply q_var (i := 0)
      with_unfolding_all first | exact ⟨rfl, Or.inl rfl, by decide, by decide⟩ | exact ⟨rfl, Or.inr (Or.inl rfl), by decide, by decide⟩ | exact ⟨rfl, Or.inr (Or.inr rfl), by decide, by decide⟩
      apply q_int
      with_unfolding_all exact ⟨kix (K := K) rfl, fun _ _ => rfl⟩
      with_unfolding_all exact ⟨nd, rfl, Or.inl rfl, rfl, Or.inl rfl⟩
      apply q_end
      apply q_then
      apply q_set (i := 2)
      apply q_op
      apply q_int
      apply q_op
      apply q_var (i := 1)
      with_unfolding_all first | exact ⟨rfl, Or.inl rfl, by decide, by decide⟩ | exact ⟨rfl, Or.inr (Or.inl rfl), by decide, by decide⟩ | exact ⟨rfl, Or.inr (Or.inr rfl), by decide, by decide⟩
      apply q_int
      with_unfolding_all exact op_mod
      with_unfolding_all exact kaddB (K := K) rfl
      with_unfolding_all exact ⟨nd, rfl, Or.inl rfl, rfl, Or.inl rfl⟩
      apply q_then
      apply q_set (i := 3)
      apply q_op
      apply q_op
      apply q_var (i := 1)
      with_unfolding_all first | exact ⟨rfl, Or.inl rfl, by decide, by decide⟩ | exact ⟨rfl, Or.inr (Or.inl rfl), by decide, by decide⟩ | exact ⟨rfl, Or.inr (Or.inr rfl), by decide, by decide⟩
      apply q_int
      with_unfolding_all exact op_fdiv
      apply q_op
      apply q_int
      apply q_int
      with_unfolding_all exact op_pow
      with_unfolding_all exact op_mod
      with_unfolding_all exact ⟨nd, rfl, Or.inl rfl, rfl, Or.inl rfl⟩
      apply q_then
      apply q_set (i := 4)
      apply q_makeA
      apply q_cons
      apply q_var (i := 3)
      with_unfolding_all first | exact ⟨rfl, Or.inl rfl, by decide, by decide⟩ | exact ⟨rfl, Or.inr (Or.inl rfl), by decide, by decide⟩ | exact ⟨rfl, Or.inr (Or.inr rfl), by decide, by decide⟩
      apply q_cons
      apply q_var (i := 2)
      with_unfolding_all first | exact ⟨rfl, Or.inl rfl, by decide, by decide⟩ | exact ⟨rfl, Or.inr (Or.inl rfl), by decide, by decide⟩ | exact ⟨rfl, Or.inr (Or.inr rfl), by decide, by decide⟩
      apply q_cons
      apply q_tupA
      apply q_cons
      apply q_op
      apply q_var (i := 1)
      with_unfolding_all first | exact ⟨rfl, Or.inl rfl, by decide, by decide⟩ | exact ⟨rfl, Or.inr (Or.inl rfl), by decide, by decide⟩ | exact ⟨rfl, Or.inr (Or.inr rfl), by decide, by decide⟩
      apply q_op
      apply q_int
      apply q_int
      with_unfolding_all exact op_pow
      with_unfolding_all exact op_mod
      apply q_nil
      with_unfolding_all exact rfl
      apply q_nil
      with_unfolding_all exact rfl
      with_unfolding_all exact rfl
      with_unfolding_all exact rfl
      with_unfolding_all exact ⟨K_Home, hr.mono (by decide), rfl, rfl, by decide⟩
      with_unfolding_all exact ⟨nd, rfl, Or.inl rfl, rfl, Or.inl rfl⟩
      apply q_then
      apply q_set (i := 5)
      apply q_lstA
      apply q_nil
      with_unfolding_all exact ⟨nd, rfl, Or.inl rfl, rfl, Or.inl rfl⟩
      apply q_then
      apply q_for
      apply q_iseq (K := K)
      apply q_slice (K := K)
      apply q_var (i := 0)
      with_unfolding_all first | exact ⟨rfl, Or.inl rfl, by decide, by decide⟩ | exact ⟨rfl, Or.inr (Or.inl rfl), by decide, by decide⟩ | exact ⟨rfl, Or.inr (Or.inr rfl), by decide, by decide⟩
      apply q_onone
      apply q_osome
      apply q_call
      apply q_cons
      apply q_var (i := 0)
      with_unfolding_all first | exact ⟨rfl, Or.inl rfl, by decide, by decide⟩ | exact ⟨rfl, Or.inr (Or.inl rfl), by decide, by decide⟩ | exact ⟨rfl, Or.inr (Or.inr rfl), by decide, by decide⟩
      apply q_cons
      apply q_var (i := 1)
      with_unfolding_all first | exact ⟨rfl, Or.inl rfl, by decide, by decide⟩ | exact ⟨rfl, Or.inr (Or.inl rfl), by decide, by decide⟩ | exact ⟨rfl, Or.inr (Or.inr rfl), by decide, by decide⟩
      apply q_nil
      with_unfolding_all exact rfl
      with_unfolding_all exact rfl
      with_unfolding_all exact ⟨C__law_place, hr.mono (by decide), rfl, passes_none, rfl, by decide⟩
      with_unfolding_all exact rfl
      with_unfolding_all exact rfl
      apply q_name (i := 6)
      with_unfolding_all exact ⟨nd, rfl, Or.inl rfl, Or.inl rfl⟩
      apply q_last
      apply q_expr
      apply q_call
      apply q_cons
      apply q_var (i := 4)
      with_unfolding_all first | exact ⟨rfl, Or.inl rfl, by decide, by decide⟩ | exact ⟨rfl, Or.inr (Or.inl rfl), by decide, by decide⟩ | exact ⟨rfl, Or.inr (Or.inr rfl), by decide, by decide⟩
      apply q_cons
      apply q_var (i := 3)
      with_unfolding_all first | exact ⟨rfl, Or.inl rfl, by decide, by decide⟩ | exact ⟨rfl, Or.inr (Or.inl rfl), by decide, by decide⟩ | exact ⟨rfl, Or.inr (Or.inr rfl), by decide, by decide⟩
      apply q_cons
      apply q_op
      apply q_op
      apply q_op
      apply q_op
      apply q_var (i := 6)
      with_unfolding_all first | exact ⟨rfl, Or.inl rfl, by decide, by decide⟩ | exact ⟨rfl, Or.inr (Or.inl rfl), by decide, by decide⟩ | exact ⟨rfl, Or.inr (Or.inr rfl), by decide, by decide⟩
      apply q_int
      with_unfolding_all exact kmul (K := K) rfl
      apply q_int
      with_unfolding_all exact op_mod
      apply q_int
      with_unfolding_all exact op_fdiv
      apply q_var (i := 2)
      with_unfolding_all first | exact ⟨rfl, Or.inl rfl, by decide, by decide⟩ | exact ⟨rfl, Or.inr (Or.inl rfl), by decide, by decide⟩ | exact ⟨rfl, Or.inr (Or.inr rfl), by decide, by decide⟩
      with_unfolding_all exact op_mod
      apply q_cons
      apply q_var (i := 6)
      with_unfolding_all first | exact ⟨rfl, Or.inl rfl, by decide, by decide⟩ | exact ⟨rfl, Or.inr (Or.inl rfl), by decide, by decide⟩ | exact ⟨rfl, Or.inr (Or.inr rfl), by decide, by decide⟩
      apply q_cons
      apply q_var (i := 5)
      with_unfolding_all first | exact ⟨rfl, Or.inl rfl, by decide, by decide⟩ | exact ⟨rfl, Or.inr (Or.inl rfl), by decide, by decide⟩ | exact ⟨rfl, Or.inr (Or.inr rfl), by decide, by decide⟩
      apply q_nil
      with_unfolding_all exact rfl
      with_unfolding_all exact rfl
      with_unfolding_all exact rfl
      with_unfolding_all exact rfl
      with_unfolding_all exact rfl
      with_unfolding_all exact ⟨C__law_come, hr.mono (by decide), rfl, passes_none, rfl, by decide⟩
      with_unfolding_all exact rfl
      with_unfolding_all exact ⟨PassesOwn.never, rfl, fun _ => rfl⟩
      apply q_then
      apply q_set (i := 7)
      apply q_meth0
      apply q_var (i := 4)
      with_unfolding_all first | exact ⟨rfl, Or.inl rfl, by decide, by decide⟩ | exact ⟨rfl, Or.inr (Or.inl rfl), by decide, by decide⟩ | exact ⟨rfl, Or.inr (Or.inr rfl), by decide, by decide⟩
      with_unfolding_all exact ⟨M_twin, hr.mono (by decide), passes_none, rfl⟩
      with_unfolding_all exact ⟨nd, rfl, Or.inl rfl, rfl, Or.inl rfl⟩
      apply q_then
      apply q_set (i := 8)
      apply q_bl
      with_unfolding_all exact ⟨nd, rfl, Or.inl rfl, rfl, Or.inl rfl⟩
      apply q_then
      apply q_set (i := 9)
      apply q_call
      apply q_cons
      apply q_var (i := 4)
      with_unfolding_all first | exact ⟨rfl, Or.inl rfl, by decide, by decide⟩ | exact ⟨rfl, Or.inr (Or.inl rfl), by decide, by decide⟩ | exact ⟨rfl, Or.inr (Or.inr rfl), by decide, by decide⟩
      apply q_nil
      with_unfolding_all exact rfl
      with_unfolding_all exact ⟨C__law_whole_seen, hr.mono (by decide), rfl, passes_none, rfl, by decide⟩
      with_unfolding_all exact ⟨nd, rfl, Or.inl rfl, rfl, Or.inl rfl⟩
      apply q_then
      apply q_set (i := 10)
      apply q_call
      apply q_cons
      apply q_var (i := 7)
      with_unfolding_all first | exact ⟨rfl, Or.inl rfl, by decide, by decide⟩ | exact ⟨rfl, Or.inr (Or.inl rfl), by decide, by decide⟩ | exact ⟨rfl, Or.inr (Or.inr rfl), by decide, by decide⟩
      apply q_nil
      with_unfolding_all exact rfl
      with_unfolding_all exact ⟨C__law_whole_seen, hr.mono (by decide), rfl, passes_none, rfl, by decide⟩
      with_unfolding_all exact ⟨nd, rfl, Or.inl rfl, rfl, Or.inl rfl⟩
      apply q_then
      apply q_if
      apply q_bool
      apply q_wor
      apply q_tcmp
      apply q_var (i := 9)
      with_unfolding_all first | exact ⟨rfl, Or.inl rfl, by decide, by decide⟩ | exact ⟨rfl, Or.inr (Or.inl rfl), by decide, by decide⟩ | exact ⟨rfl, Or.inr (Or.inr rfl), by decide, by decide⟩
      apply q_non
      with_unfolding_all exact ⟨op_isN, nomark _⟩
      apply q_wor1
      apply q_tcmp
      apply q_var (i := 9)
      with_unfolding_all first | exact ⟨rfl, Or.inl rfl, by decide, by decide⟩ | exact ⟨rfl, Or.inr (Or.inl rfl), by decide, by decide⟩ | exact ⟨rfl, Or.inr (Or.inr rfl), by decide, by decide⟩
      apply q_var (i := 10)
      with_unfolding_all first | exact ⟨rfl, Or.inl rfl, by decide, by decide⟩ | exact ⟨rfl, Or.inr (Or.inl rfl), by decide, by decide⟩ | exact ⟨rfl, Or.inr (Or.inr rfl), by decide, by decide⟩
      with_unfolding_all exact ⟨kne (K := K) rfl hr.units, nomark _⟩
      apply q_last
      apply q_ret
      apply q_bl
      apply q_end
      apply q_then
      apply q_for
      apply q_iseq (K := K)
      apply q_slice (K := K)
      apply q_var (i := 0)
      with_unfolding_all first | exact ⟨rfl, Or.inl rfl, by decide, by decide⟩ | exact ⟨rfl, Or.inr (Or.inl rfl), by decide, by decide⟩ | exact ⟨rfl, Or.inr (Or.inr rfl), by decide, by decide⟩
      apply q_osome
      apply q_call
      apply q_cons
      apply q_var (i := 0)
      with_unfolding_all first | exact ⟨rfl, Or.inl rfl, by decide, by decide⟩ | exact ⟨rfl, Or.inr (Or.inl rfl), by decide, by decide⟩ | exact ⟨rfl, Or.inr (Or.inr rfl), by decide, by decide⟩
      apply q_cons
      apply q_var (i := 1)
      with_unfolding_all first | exact ⟨rfl, Or.inl rfl, by decide, by decide⟩ | exact ⟨rfl, Or.inr (Or.inl rfl), by decide, by decide⟩ | exact ⟨rfl, Or.inr (Or.inr rfl), by decide, by decide⟩
      apply q_nil
      with_unfolding_all exact rfl
      with_unfolding_all exact rfl
      with_unfolding_all exact ⟨C__law_place, hr.mono (by decide), rfl, passes_none, rfl, by decide⟩
      apply q_osome
      apply q_int
      with_unfolding_all exact rfl
      with_unfolding_all exact rfl
      apply q_name (i := 6)
      with_unfolding_all exact ⟨nd, rfl, Or.inl rfl, Or.inl rfl⟩
      apply q_then
      apply q_set (i := 11)
      apply q_op
      apply q_op
      apply q_op
      apply q_op
      apply q_var (i := 6)
      with_unfolding_all first | exact ⟨rfl, Or.inl rfl, by decide, by decide⟩ | exact ⟨rfl, Or.inr (Or.inl rfl), by decide, by decide⟩ | exact ⟨rfl, Or.inr (Or.inr rfl), by decide, by decide⟩
      apply q_int
      with_unfolding_all exact kmul (K := K) rfl
      apply q_int
      with_unfolding_all exact op_mod
      apply q_int
      with_unfolding_all exact op_fdiv
      apply q_var (i := 2)
      with_unfolding_all first | exact ⟨rfl, Or.inl rfl, by decide, by decide⟩ | exact ⟨rfl, Or.inr (Or.inl rfl), by decide, by decide⟩ | exact ⟨rfl, Or.inr (Or.inr rfl), by decide, by decide⟩
      with_unfolding_all exact op_mod
      with_unfolding_all exact ⟨nd, rfl, Or.inl rfl, rfl, Or.inl rfl⟩
      apply q_then
      apply q_set (i := 12)
      apply q_op
      apply q_op
      apply q_var (i := 6)
      with_unfolding_all first | exact ⟨rfl, Or.inl rfl, by decide, by decide⟩ | exact ⟨rfl, Or.inr (Or.inl rfl), by decide, by decide⟩ | exact ⟨rfl, Or.inr (Or.inr rfl), by decide, by decide⟩
      apply q_int
      with_unfolding_all exact op_fdiv
      apply q_int
      with_unfolding_all exact op_mod
      with_unfolding_all exact ⟨nd, rfl, Or.inl rfl, rfl, Or.inl rfl⟩
      apply q_then
      apply q_set (i := 8)
      apply q_and
      apply q_var (i := 8)
      with_unfolding_all first | exact ⟨rfl, Or.inl rfl, by decide, by decide⟩ | exact ⟨rfl, Or.inr (Or.inl rfl), by decide, by decide⟩ | exact ⟨rfl, Or.inr (Or.inr rfl), by decide, by decide⟩
      apply q_one
      apply q_cmp
      apply q_var (i := 12)
      with_unfolding_all first | exact ⟨rfl, Or.inl rfl, by decide, by decide⟩ | exact ⟨rfl, Or.inr (Or.inl rfl), by decide, by decide⟩ | exact ⟨rfl, Or.inr (Or.inr rfl), by decide, by decide⟩
      apply q_int
      with_unfolding_all exact ⟨op_gt, nomark _⟩
      with_unfolding_all exact ⟨nd, rfl, Or.inl rfl, rfl, Or.inl rfl⟩
      apply q_then
      apply q_set (i := 13)
      apply q_lstA
      apply q_nil
      with_unfolding_all exact ⟨nd, rfl, Or.inl rfl, rfl, Or.inl rfl⟩
      apply q_then
      apply q_if
      apply q_tcmp
      apply q_var (i := 12)
      with_unfolding_all first | exact ⟨rfl, Or.inl rfl, by decide, by decide⟩ | exact ⟨rfl, Or.inr (Or.inl rfl), by decide, by decide⟩ | exact ⟨rfl, Or.inr (Or.inr rfl), by decide, by decide⟩
      apply q_int
      with_unfolding_all exact ⟨kne (K := K) rfl hr.units, nomark _⟩
      apply q_last
      apply q_set (i := 13)
      apply q_call
      apply q_cons
      apply q_var (i := 4)
      with_unfolding_all first | exact ⟨rfl, Or.inl rfl, by decide, by decide⟩ | exact ⟨rfl, Or.inr (Or.inl rfl), by decide, by decide⟩ | exact ⟨rfl, Or.inr (Or.inr rfl), by decide, by decide⟩
      apply q_cons
      apply q_var (i := 3)
      with_unfolding_all first | exact ⟨rfl, Or.inl rfl, by decide, by decide⟩ | exact ⟨rfl, Or.inr (Or.inl rfl), by decide, by decide⟩ | exact ⟨rfl, Or.inr (Or.inr rfl), by decide, by decide⟩
      apply q_cons
      apply q_var (i := 11)
      with_unfolding_all first | exact ⟨rfl, Or.inl rfl, by decide, by decide⟩ | exact ⟨rfl, Or.inr (Or.inl rfl), by decide, by decide⟩ | exact ⟨rfl, Or.inr (Or.inr rfl), by decide, by decide⟩
      apply q_cons
      apply q_var (i := 6)
      with_unfolding_all first | exact ⟨rfl, Or.inl rfl, by decide, by decide⟩ | exact ⟨rfl, Or.inr (Or.inl rfl), by decide, by decide⟩ | exact ⟨rfl, Or.inr (Or.inr rfl), by decide, by decide⟩
      apply q_cons
      apply q_var (i := 5)
      with_unfolding_all first | exact ⟨rfl, Or.inl rfl, by decide, by decide⟩ | exact ⟨rfl, Or.inr (Or.inl rfl), by decide, by decide⟩ | exact ⟨rfl, Or.inr (Or.inr rfl), by decide, by decide⟩
      apply q_nil
      with_unfolding_all exact rfl
      with_unfolding_all exact rfl
      with_unfolding_all exact rfl
      with_unfolding_all exact rfl
      with_unfolding_all exact rfl
      with_unfolding_all exact ⟨C__law_come, hr.mono (by decide), rfl, passes_none, rfl, by decide⟩
      with_unfolding_all exact ⟨nd, rfl, Or.inl rfl, rfl, Or.inl rfl⟩
      apply q_end
      apply q_then
      apply q_if
      apply q_tcmp
      apply q_var (i := 12)
      with_unfolding_all first | exact ⟨rfl, Or.inl rfl, by decide, by decide⟩ | exact ⟨rfl, Or.inr (Or.inl rfl), by decide, by decide⟩ | exact ⟨rfl, Or.inr (Or.inr rfl), by decide, by decide⟩
      apply q_int
      with_unfolding_all exact ⟨keq (K := K) rfl hr.units, nomark _⟩
      apply q_then
      apply q_expr
      apply q_call
      apply q_cons
      apply q_var (i := 7)
      with_unfolding_all first | exact ⟨rfl, Or.inl rfl, by decide, by decide⟩ | exact ⟨rfl, Or.inr (Or.inl rfl), by decide, by decide⟩ | exact ⟨rfl, Or.inr (Or.inr rfl), by decide, by decide⟩
      apply q_cons
      apply q_var (i := 3)
      with_unfolding_all first | exact ⟨rfl, Or.inl rfl, by decide, by decide⟩ | exact ⟨rfl, Or.inr (Or.inl rfl), by decide, by decide⟩ | exact ⟨rfl, Or.inr (Or.inr rfl), by decide, by decide⟩
      apply q_cons
      apply q_var (i := 11)
      with_unfolding_all first | exact ⟨rfl, Or.inl rfl, by decide, by decide⟩ | exact ⟨rfl, Or.inr (Or.inl rfl), by decide, by decide⟩ | exact ⟨rfl, Or.inr (Or.inr rfl), by decide, by decide⟩
      apply q_cons
      apply q_var (i := 6)
      with_unfolding_all first | exact ⟨rfl, Or.inl rfl, by decide, by decide⟩ | exact ⟨rfl, Or.inr (Or.inl rfl), by decide, by decide⟩ | exact ⟨rfl, Or.inr (Or.inr rfl), by decide, by decide⟩
      apply q_cons
      apply q_var (i := 5)
      with_unfolding_all first | exact ⟨rfl, Or.inl rfl, by decide, by decide⟩ | exact ⟨rfl, Or.inr (Or.inl rfl), by decide, by decide⟩ | exact ⟨rfl, Or.inr (Or.inr rfl), by decide, by decide⟩
      apply q_nil
      with_unfolding_all exact rfl
      with_unfolding_all exact rfl
      with_unfolding_all exact rfl
      with_unfolding_all exact rfl
      with_unfolding_all exact rfl
      with_unfolding_all exact ⟨C__law_come, hr.mono (by decide), rfl, passes_none, rfl, by decide⟩
      with_unfolding_all exact rfl
      apply q_last
      apply q_if
      apply q_tcmp
      apply q_call
      apply q_cons
      apply q_var (i := 4)
      with_unfolding_all first | exact ⟨rfl, Or.inl rfl, by decide, by decide⟩ | exact ⟨rfl, Or.inr (Or.inl rfl), by decide, by decide⟩ | exact ⟨rfl, Or.inr (Or.inr rfl), by decide, by decide⟩
      apply q_nil
      with_unfolding_all exact rfl
      with_unfolding_all exact ⟨C__law_whole_seen, hr.mono (by decide), rfl, passes_none, rfl, by decide⟩
      apply q_var (i := 9)
      with_unfolding_all first | exact ⟨rfl, Or.inl rfl, by decide, by decide⟩ | exact ⟨rfl, Or.inr (Or.inl rfl), by decide, by decide⟩ | exact ⟨rfl, Or.inr (Or.inr rfl), by decide, by decide⟩
      with_unfolding_all exact ⟨kne (K := K) rfl hr.units, nomark _⟩
      apply q_last
      apply q_ret
      apply q_bl
      apply q_end
      apply q_last
      apply q_if
      apply q_bool
      apply q_wand
      apply q_tv
      apply q_var (i := 8)
      with_unfolding_all first | exact ⟨rfl, Or.inl rfl, by decide, by decide⟩ | exact ⟨rfl, Or.inr (Or.inl rfl), by decide, by decide⟩ | exact ⟨rfl, Or.inr (Or.inr rfl), by decide, by decide⟩
      with_unfolding_all exact fun _ => rfl
      apply q_wand1
      apply q_tcmp
      apply q_call
      apply q_cons
      apply q_var (i := 7)
      with_unfolding_all first | exact ⟨rfl, Or.inl rfl, by decide, by decide⟩ | exact ⟨rfl, Or.inr (Or.inl rfl), by decide, by decide⟩ | exact ⟨rfl, Or.inr (Or.inr rfl), by decide, by decide⟩
      apply q_cons
      apply q_var (i := 3)
      with_unfolding_all first | exact ⟨rfl, Or.inl rfl, by decide, by decide⟩ | exact ⟨rfl, Or.inr (Or.inl rfl), by decide, by decide⟩ | exact ⟨rfl, Or.inr (Or.inr rfl), by decide, by decide⟩
      apply q_cons
      apply q_var (i := 11)
      with_unfolding_all first | exact ⟨rfl, Or.inl rfl, by decide, by decide⟩ | exact ⟨rfl, Or.inr (Or.inl rfl), by decide, by decide⟩ | exact ⟨rfl, Or.inr (Or.inr rfl), by decide, by decide⟩
      apply q_cons
      apply q_var (i := 6)
      with_unfolding_all first | exact ⟨rfl, Or.inl rfl, by decide, by decide⟩ | exact ⟨rfl, Or.inr (Or.inl rfl), by decide, by decide⟩ | exact ⟨rfl, Or.inr (Or.inr rfl), by decide, by decide⟩
      apply q_cons
      apply q_var (i := 5)
      with_unfolding_all first | exact ⟨rfl, Or.inl rfl, by decide, by decide⟩ | exact ⟨rfl, Or.inr (Or.inl rfl), by decide, by decide⟩ | exact ⟨rfl, Or.inr (Or.inr rfl), by decide, by decide⟩
      apply q_nil
      with_unfolding_all exact rfl
      with_unfolding_all exact rfl
      with_unfolding_all exact rfl
      with_unfolding_all exact rfl
      with_unfolding_all exact rfl
      with_unfolding_all exact ⟨C__law_come, hr.mono (by decide), rfl, passes_none, rfl, by decide⟩
      apply q_var (i := 13)
      with_unfolding_all first | exact ⟨rfl, Or.inl rfl, by decide, by decide⟩ | exact ⟨rfl, Or.inr (Or.inl rfl), by decide, by decide⟩ | exact ⟨rfl, Or.inr (Or.inr rfl), by decide, by decide⟩
      with_unfolding_all exact ⟨kne (K := K) rfl hr.units, nomark _⟩
      apply q_last
      apply q_ret
      apply q_bl
      apply q_last
      apply q_if
      apply q_bool
      apply q_wand
      apply q_tnot
      apply q_tv
      apply q_var (i := 8)
      with_unfolding_all first | exact ⟨rfl, Or.inl rfl, by decide, by decide⟩ | exact ⟨rfl, Or.inr (Or.inl rfl), by decide, by decide⟩ | exact ⟨rfl, Or.inr (Or.inr rfl), by decide, by decide⟩
      with_unfolding_all exact fun _ => rfl
      apply q_wand1
      apply q_tcmp
      apply q_call
      apply q_cons
      apply q_var (i := 7)
      with_unfolding_all first | exact ⟨rfl, Or.inl rfl, by decide, by decide⟩ | exact ⟨rfl, Or.inr (Or.inl rfl), by decide, by decide⟩ | exact ⟨rfl, Or.inr (Or.inr rfl), by decide, by decide⟩
      apply q_nil
      with_unfolding_all exact rfl
      with_unfolding_all exact ⟨C__law_whole_seen, hr.mono (by decide), rfl, passes_none, rfl, by decide⟩
      apply q_var (i := 10)
      with_unfolding_all first | exact ⟨rfl, Or.inl rfl, by decide, by decide⟩ | exact ⟨rfl, Or.inr (Or.inl rfl), by decide, by decide⟩ | exact ⟨rfl, Or.inr (Or.inr rfl), by decide, by decide⟩
      with_unfolding_all exact ⟨kne (K := K) rfl hr.units, nomark _⟩
      apply q_last
      apply q_ret
      apply q_bl
      apply q_end
      apply q_then
      apply q_set (i := 9)
      apply q_call
      apply q_cons
      apply q_var (i := 4)
      with_unfolding_all first | exact ⟨rfl, Or.inl rfl, by decide, by decide⟩ | exact ⟨rfl, Or.inr (Or.inl rfl), by decide, by decide⟩ | exact ⟨rfl, Or.inr (Or.inr rfl), by decide, by decide⟩
      apply q_nil
      with_unfolding_all exact rfl
      with_unfolding_all exact ⟨C__law_whole_seen, hr.mono (by decide), rfl, passes_none, rfl, by decide⟩
      with_unfolding_all exact ⟨nd, rfl, Or.inl rfl, rfl, Or.inl rfl⟩
      apply q_then
      apply q_set (i := 10)
      apply q_call
      apply q_cons
      apply q_var (i := 7)
      with_unfolding_all first | exact ⟨rfl, Or.inl rfl, by decide, by decide⟩ | exact ⟨rfl, Or.inr (Or.inl rfl), by decide, by decide⟩ | exact ⟨rfl, Or.inr (Or.inr rfl), by decide, by decide⟩
      apply q_nil
      with_unfolding_all exact rfl
      with_unfolding_all exact ⟨C__law_whole_seen, hr.mono (by decide), rfl, passes_none, rfl, by decide⟩
      with_unfolding_all exact ⟨nd, rfl, Or.inl rfl, rfl, Or.inl rfl⟩
      apply q_last
      apply q_if
      apply q_bool
      apply q_wor
      apply q_tcmp
      apply q_var (i := 9)
      with_unfolding_all first | exact ⟨rfl, Or.inl rfl, by decide, by decide⟩ | exact ⟨rfl, Or.inr (Or.inl rfl), by decide, by decide⟩ | exact ⟨rfl, Or.inr (Or.inr rfl), by decide, by decide⟩
      apply q_non
      with_unfolding_all exact ⟨op_isN, nomark _⟩
      apply q_wor
      apply q_tcmp
      apply q_var (i := 10)
      with_unfolding_all first | exact ⟨rfl, Or.inl rfl, by decide, by decide⟩ | exact ⟨rfl, Or.inr (Or.inl rfl), by decide, by decide⟩ | exact ⟨rfl, Or.inr (Or.inr rfl), by decide, by decide⟩
      apply q_non
      with_unfolding_all exact ⟨op_isN, nomark _⟩
      apply q_wor1
      apply q_bool
      apply q_wand
      apply q_tv
      apply q_var (i := 8)
      with_unfolding_all first | exact ⟨rfl, Or.inl rfl, by decide, by decide⟩ | exact ⟨rfl, Or.inr (Or.inl rfl), by decide, by decide⟩ | exact ⟨rfl, Or.inr (Or.inr rfl), by decide, by decide⟩
      with_unfolding_all exact fun _ => rfl
      apply q_wand1
      apply q_tcmp
      apply q_var (i := 9)
      with_unfolding_all first | exact ⟨rfl, Or.inl rfl, by decide, by decide⟩ | exact ⟨rfl, Or.inr (Or.inl rfl), by decide, by decide⟩ | exact ⟨rfl, Or.inr (Or.inr rfl), by decide, by decide⟩
      apply q_var (i := 10)
      with_unfolding_all first | exact ⟨rfl, Or.inl rfl, by decide, by decide⟩ | exact ⟨rfl, Or.inr (Or.inl rfl), by decide, by decide⟩ | exact ⟨rfl, Or.inr (Or.inr rfl), by decide, by decide⟩
      with_unfolding_all exact ⟨kne (K := K) rfl hr.units, nomark _⟩
      apply q_last
      apply q_ret
      apply q_bl
      apply q_end
      with_unfolding_all exact ⟨PassesOwn.never, rfl, fun _ => rfl⟩
      apply q_last
      apply q_ret
      apply q_and
      apply q_cmp
      apply q_call
      apply q_cons
      apply q_var (i := 4)
      with_unfolding_all first | exact ⟨rfl, Or.inl rfl, by decide, by decide⟩ | exact ⟨rfl, Or.inr (Or.inl rfl), by decide, by decide⟩ | exact ⟨rfl, Or.inr (Or.inr rfl), by decide, by decide⟩
      apply q_nil
      with_unfolding_all exact rfl
      with_unfolding_all exact ⟨C__law_whole_seen, hr.mono (by decide), rfl, passes_none, rfl, by decide⟩
      apply q_var (i := 9)
      with_unfolding_all first | exact ⟨rfl, Or.inl rfl, by decide, by decide⟩ | exact ⟨rfl, Or.inr (Or.inl rfl), by decide, by decide⟩ | exact ⟨rfl, Or.inr (Or.inr rfl), by decide, by decide⟩
      with_unfolding_all exact ⟨keq (K := K) rfl hr.units, nomark _⟩
      apply q_and
      apply q_cmp
      apply q_call
      apply q_cons
      apply q_var (i := 7)
      with_unfolding_all first | exact ⟨rfl, Or.inl rfl, by decide, by decide⟩ | exact ⟨rfl, Or.inr (Or.inl rfl), by decide, by decide⟩ | exact ⟨rfl, Or.inr (Or.inr rfl), by decide, by decide⟩
      apply q_nil
      with_unfolding_all exact rfl
      with_unfolding_all exact ⟨C__law_whole_seen, hr.mono (by decide), rfl, passes_none, rfl, by decide⟩
      apply q_var (i := 10)
      with_unfolding_all first | exact ⟨rfl, Or.inl rfl, by decide, by decide⟩ | exact ⟨rfl, Or.inr (Or.inl rfl), by decide, by decide⟩ | exact ⟨rfl, Or.inr (Or.inr rfl), by decide, by decide⟩
      with_unfolding_all exact ⟨keq (K := K) rfl hr.units, nomark _⟩
      apply q_one
      apply q_call
      apply q_cons
      apply q_var (i := 5)
      with_unfolding_all first | exact ⟨rfl, Or.inl rfl, by decide, by decide⟩ | exact ⟨rfl, Or.inr (Or.inl rfl), by decide, by decide⟩ | exact ⟨rfl, Or.inr (Or.inr rfl), by decide, by decide⟩
      apply q_nil
      with_unfolding_all exact rfl
      with_unfolding_all exact ⟨C__law_held, hr.mono (by decide), rfl, passes_none, rfl, by decide⟩
    have sz1 : 1 ≤ sizeLine := by decide
    have sz2 : 2 ≤ sizeLine := by decide
    have p60 : CPow 10 60 := ⟨by decide, by decide, by decide⟩
    have pos60 : (0 : Int) < 10 ^ (60 : Int).toNat := by decide
    have p9 : CPow 10 9 := ⟨by decide, by decide, by decide⟩
    have pos9 : (0 : Int) < 10 ^ (9 : Int).toNat := by decide
    refine seq_con ?_
    refine st_norm (σ' := [some (.ref a), some (.int 0), none, none, none, none, none, none, none, none, none, none, none, none]) rfl ?_
    refine cut (fun σ H5 => ∃ c, σ = [some (.ref a), some (.int c), none, none, none, none, none, none, none, none, none, none, none, none] ∧ H5 = H) ?tl0 fun tl0 => ?hd0
    case hd0 =>
      refine ⟨_, rfl, .inl ⟨a, _, rfl, .inl hS, _, _, rfl, rfl, _, rfl, iteD (fun h0 => ?_) (fun h0 => tl0 _ _ ⟨0, rfl, rfl⟩)⟩⟩
      rw [List.length_map] at h0
      have at1 : atI (ns.map V.int) 0 = some (.int (ns[0]'(by omega))) := at_nat (j := 0) (by rw [List.getElem?_map, List.getElem?_eq_getElem (by omega)]; rfl) rfl
      exact ⟨_, rfl, .inl ⟨a, _, _, _, rfl, rfl, hS, at1, tl0 _ _ ⟨_, rfl, rfl⟩⟩⟩
    rintro σ H0 ⟨c, rfl, rfl⟩
    refine ⟨_, rfl, _, _, rfl, rfl, (by show (0 : Int) < 8; decide), .inl ⟨_, _, rfl, rfl, ?_⟩⟩
    dsimp only [gName]
    obtain ⟨n, hn0, hn2, hn9⟩ : ∃ n : Nat, 2 + c % 8 = ((n : Nat) : Int) ∧ 2 ≤ n ∧ n ≤ 9 := ⟨(2 + c % 8).toNat, by omega, by omega, by omega⟩
    rw [hn0]
    have npos : (0 : Int) < ((n : Nat) : Int) := by omega
    have n64 : n ≤ 64 := by omega
    refine ⟨_, rfl, _, _, rfl, rfl, ⟨by decide, by decide⟩, _, _, rfl, rfl, p9, _, _, rfl, rfl, pos9, ?_⟩
    dsimp only [gName]
    generalize c / 8 % 10 ^ (9 : Int).toNat = ln
    refine st_norm (σ' := [some (.ref a), some (.int c), some (.int ((n : Nat) : Int)), some (.int ln), none, none, none, none, none, none, none, none, none, none]) rfl ?_
    refine ⟨_, rfl, _, rfl, _, rfl, _, _, rfl, rfl, p60, _, _, rfl, rfl, pos60, sz1, fun p4 H4 n4 => fun h dx H5 nI => ⟨h, dx, ln, n, .ref p4, some [c % 10 ^ (60 : Int).toNat], rfl, n64, nI.2.2.2.2.1, ⟨p4, rfl, nI.2.2.2.1 _ _ n4.2.2⟩, fun pS H6 sb6 hpS hh => ⟨rfl, ?_⟩⟩⟩
    dsimp only [gName]
    have s46 : Same H4 H6 := fun c o' e => sb6 c o' (nI.2.2.2.1 c o' e) fun z => by
      obtain rfl := List.mem_singleton.mp z
      rw [nI.1] at e
      cases e
    have s06 : Same H0 H6 := n4.2.1.trans s46
    have fh : H0 h = none := n4.2.1.free nI.1
    have fS : H0 pS = none := (n4.2.1.trans nI.2.2.2.1).free hpS
    clear n4 nI s46 sb6
    refine ⟨Nat.zero_le _, fun pK H7 n7 => ?_⟩
    dsimp only [gName]
    refine st_norm (σ' := [some (.ref a), some (.int c), some (.int ((n : Nat) : Int)), some (.int ln), some (.ref h), some (.ref pK), none, none, none, none, none, none, none, none]) rfl ?_
    have s07 := s06.trans n7.2.1
    have fK : H0 pK = none := s06.free n7.1
    have hh7 := hh.keep n7.2.1
    have nKS : pK ≠ pS := fun z => by
      obtain ⟨x, e⟩ := (home_some hh).2
      exact none_ne n7.1 e z
    have g0 : Gd ln n ⟨ln, n, some [c % 10 ^ (60 : Int).toNat], none, noneS, [], none, none, noneS⟩ := ⟨⟨rfl, rfl, ⟨_, rfl⟩, (fun k e => nomatch e), (fun k e => nomatch e), (fun x hx => by cases hx), List.nodup_nil, fun x hx => by cases hx⟩, (fun k e => nomatch e), (fun w e => nomatch e)⟩
    refine .inl ⟨_, rfl, _, rfl, _, rfl, a, ns, c, rfl, s07.seq hS, fun m1 => ⟨_, rfl, .inl ⟨a, _, rfl, s07.seq hS, fun pX hpX => ?_⟩⟩⟩
    obtain ⟨ms, em, lm⟩ := cut_ints ns none (some ((m1 : Nat) : Int))
    rw [em]
    have n8 := New.mk' (o := .lst (ms.map V.int)) hpX
    generalize L2.upd H7 pX (.lst (ms.map V.int)) = H8 at n8 ⊢
    have nX : pX ∉ [h, pS, pK] := fun z => by
      simp only [List.mem_cons, List.not_mem_nil, or_false] at z
      rcases z with z | z | z
      · obtain ⟨x, e⟩ := (home_some hh7).1
        exact none_ne hpX e z
      · obtain ⟨x, e⟩ := (home_some hh7).2
        exact none_ne hpX e z
      · exact none_ne hpX n7.2.2 z
    have eKX := n8.2.1 _ _ n7.2.2
    refine ⟨pX, rfl, ⟨_, SqL.of n8.2.2⟩, for_list (K := K) (a := pX) (xs := ms.map V.int) (fun i σ C => ∃ st ts v6, σ = [some (.ref a), some (.int c), some (.int ((n : Nat) : Int)), some (.int ln), some (.ref h), some (.ref pK), v6, none, none, none, none, none, none, none] ∧ HomeAt cH C h pS st ∧ Gd ln n st ∧ st.row.length ≤ i ∧ C pK = some (.lst (ts.map V.ref)) ∧ ts.length ≤ 4 * i ∧ Helds C [h, pS, pK] ts ∧ C pX = some (.lst (ms.map V.int)) ∧ Same H0 C) ⟨_, [], none, rfl, hh7.keep n8.2.1, g0, Nat.le_refl _, eKX, Nat.zero_le _, (fun t ht => by cases ht), n8.2.2, s07.trans n8.2.1⟩ (fun i σ C _ h => by
      obtain ⟨_, _, _, _, _, _, _, _, _, _, e, _⟩ := h
      exact SqL.of e) ?_ ?_⟩
    · clear hh hh7 n7 n8 g0 eKX
      rintro i x σ C hx ⟨st, ts, v6, rfl, hC, gC, lC, eK, ltC, hhC, eX, sC⟩
      have hi : i < ms.length := by
        have := (List.getElem?_eq_some_iff.mp hx).1
        rwa [List.length_map] at this
      obtain ⟨z, rfl⟩ : ∃ z, x = .int z := by
        rw [List.getElem?_map, List.getElem?_eq_getElem hi] at hx
        exact ⟨_, (Option.some.inj hx).symm⟩
      dsimp only [gName]
      obtain ⟨k1, hk1, hkn1⟩ := mod_nat (z * 48271 % 2147483647 / 37) (by omega : 0 < n)
      have gd := comeL_good (c := z) gC hkn1
      refine ⟨_, rfl, _, rfl, _, rfl, .inl ⟨_, _, rfl, rfl, (.inr ⟨by decide, by decide⟩), _, _, rfl, rfl, (by show (0 : Int) < 2147483647; decide), _, _, rfl, rfl, ⟨by decide, by decide⟩, _, rfl, _, _, rfl, rfl, npos, _, rfl, _, rfl, h, pS, pK, st, ln, z, n, k1, [h, pS, pK], ts, ?_, hC, gC, hkn1, n64, by omega, nKS, eK, by omega, hhC, by simp, by simp, by simp, ?_, fun p ps C' us sb hp hs ep lp eK' lu hh' => ?_⟩⟩
      · show [V.ref h, V.int ln, V.int (z * 48271 % 2147483647 / 37 % ((n : Nat) : Int)), V.int z, V.ref pK] = _
        rw [hk1]
      · intro x hx
        simp only [List.mem_cons, List.not_mem_nil, or_false] at hx
        rcases hx with rfl | rfl | rfl
        · exact some_ne (home_some hC).1
        · exact some_ne (home_some hC).2
        · exact some_ne ⟨_, eK⟩
      · have gl := gd.2.2
        refine ⟨_, ts ++ us, _, rfl, hs, gd.1, by omega, eK', by rw [List.length_append]; omega, hh', sb _ _ eX nX, fun b o e => sb b o (sC b o e) fun y => ?_⟩
        simp only [List.mem_cons, List.not_mem_nil, or_false] at y
        rcases y with rfl | rfl | rfl
        · rw [fh] at e
          cases e
        · rw [fS] at e
          cases e
        · rw [fK] at e
          cases e
    clear hh hh7 n7 n8 g0 eKX
    rintro σ C ⟨st, ts, v6, rfl, hC, gC, lC, eK, ltC, hhC, eX, sC⟩
    rw [List.length_map] at lC ltC
    obtain ⟨dx1, vf1, vw1, qs1, r1⟩ := hC.raw
    refine ⟨_, rfl, h, _, dx1, _, [], _, rfl, r1.obj, (by kernel_rfl), ⟨rfl, rfl, rfl⟩, h, pS, st, rfl, hC, fun o pO C1 s1 ho hpO hO => ?_⟩
    dsimp only [gName]
    refine seq_con ?_
    refine st_norm (σ' := [some (.ref a), some (.int c), some (.int ((n : Nat) : Int)), some (.int ln), some (.ref h), some (.ref pK), v6, some (.ref o), some (.bl true), none, none, none, none, none]) rfl ?_
    have T1 : TW cH C1 h pS o pO pK ln n 63 st st ts := by
      refine ⟨hC.keep s1, hO, gC, gC, by omega, by omega, s1 _ _ eK, by omega, fun t ht => ?_, nKS, (none_ne hpO eK).symm, ?_, ?_⟩
      · obtain ⟨p, q, xs, R⟩ := hhC t ht
        refine ⟨p, q, xs, s1 _ _ R.e, s1 _ _ R.ep, s1 _ _ R.eq, R.v.kt s1.kt, fun z => ?_, fun z => ?_⟩
        · simp only [List.mem_cons, List.not_mem_nil, or_false] at z
          rcases z with z | z | z | z | z
          · exact R.np (by simp [z])
          · exact R.np (by simp [z])
          · exact none_ne ho R.ep z.symm
          · exact none_ne hpO R.ep z.symm
          · exact R.np (by simp [z])
        · simp only [List.mem_cons, List.not_mem_nil, or_false] at z
          rcases z with z | z | z | z | z
          · exact R.nq (by simp [z])
          · exact R.nq (by simp [z])
          · exact none_ne ho R.eq z.symm
          · exact none_ne hpO R.eq z.symm
          · exact R.nq (by simp [z])
      · exact (none_ne hpO r1.lst).symm
      · exact (none_ne ho r1.obj).symm
    have sC1 := sC.trans s1
    have fo : H0 o = none := sC.free ho
    have fO : H0 pO = none := sC.free hpO
    clear hC gC lC eK ltC hhC eX r1 hO s1 ho hpO
    refine ⟨_, rfl, ?_⟩
    dsimp only
    refine T1.see1 (by decide) fun t1 C2 s2 pic1 => ?_
    dsimp only [gName]
    have T2 := T1.keep s2
    refine ⟨_, rfl, ?_⟩
    dsimp only
    refine T2.see2 (by decide) fun t2 C3 s3 pic2 => ?_
    dsimp only [gName]
    refine st_norm (σ' := [some (.ref a), some (.int c), some (.int ((n : Nat) : Int)), some (.int ln), some (.ref h), some (.ref pK), v6, some (.ref o), some (.bl true), some (.ref t1), some (.ref t2), none, none, none]) rfl ?_
    have T3 := T2.keep s3
    have pic13 := pic1.kt s3.kt
    refine ⟨_, rfl, rfl, _, rfl, iteD (fun z => nomatch z) (fun _ => ?_)⟩
    refine ⟨_, rfl, _, rfl, rNeA.same (pic_shp T3.g1) (by decide) pic13.rep pic2.rep ⟨false, rfl, iteF ?_⟩⟩
    refine next_ ?_
    have s03 := sC1.trans (s2.trans s3)
    clear T1 T2 pic1 s2 s3 sC1 sC
    refine .inl ⟨_, rfl, _, rfl, _, rfl, a, ns, c, rfl, s03.seq hS, fun m2 => ⟨_, rfl, 98, rfl, .inl ⟨a, _, rfl, s03.seq hS, fun pY hpY => ?_⟩⟩⟩
    obtain ⟨ms2, em2, lm2⟩ := cut_ints ns (some ((m2 : Nat) : Int)) (some 98)
    rw [em2]
    have n9 := New.mk' (o := .lst (ms2.map V.int)) hpY
    generalize L2.upd C3 pY (.lst (ms2.map V.int)) = C4 at n9 ⊢
    have nY : pY ∉ [h, pS, o, pO, pK] := fun z => T3.al pY z hpY
    have nY1 : pY ∉ [h, pS, pK] := fun z => nY (by simp only [List.mem_cons, List.not_mem_nil, or_false] at z ⊢; rcases z with z | z | z <;> simp [z])
    have nY2 : pY ∉ [o, pO, pK] := fun z => nY (by simp only [List.mem_cons, List.not_mem_nil, or_false] at z ⊢; rcases z with z | z | z <;> simp [z])
    have T4 := T3.keep n9.2.1
    refine ⟨pY, rfl, ⟨_, SqL.of n9.2.2⟩, for_list (K := K) (a := pY) (xs := ms2.map V.int) (fun i σ C => ∃ st st' b t1 t2 ts v6 v11 v12 v13, σ = [some (.ref a), some (.int c), some (.int ((n : Nat) : Int)), some (.int ln), some (.ref h), some (.ref pK), v6, some (.ref o), some (.bl b), some (.ref t1), some (.ref t2), v11, v12, v13] ∧ TW cH C h pS o pO pK ln n (63 + 2 * i) st st' ts ∧ PicAt C t1 st ∧ PicAt C t2 st' ∧ (b = true → st = st') ∧ C pY = some (.lst (ms2.map V.int))) ⟨st, st, true, t1, t2, ts, v6, none, none, none, rfl, T4, pic13.kt n9.2.1.kt, pic2.kt n9.2.1.kt, fun _ => rfl, n9.2.2⟩ (fun i σ C _ h => by
      obtain ⟨_, _, _, _, _, _, _, _, _, _, _, _, _, _, _, e⟩ := h
      exact SqL.of e) ?_ ?_⟩
    · clear T3 T4 pic13 pic2 n9 s03
      rintro i x σ C hx ⟨st, st', b, t1, t2, ts, v6, v11, v12, v13, rfl, T, pic1, pic2, hb, eY⟩
      have hi : i < ms2.length := by
        have := (List.getElem?_eq_some_iff.mp hx).1
        rwa [List.length_map] at this
      obtain ⟨z, rfl⟩ : ∃ z, x = .int z := by
        rw [List.getElem?_map, List.getElem?_eq_getElem hi] at hx
        exact ⟨_, (Option.some.inj hx).symm⟩
      dsimp only [gName]
      refine ⟨_, rfl, .inl ⟨_, _, rfl, rfl, (.inr ⟨by decide, by decide⟩), _, _, rfl, rfl, (by show (0 : Int) < 2147483647; decide), _, _, rfl, rfl, ⟨by decide, by decide⟩, _, rfl, _, _, rfl, rfl, npos, ?_⟩⟩
      dsimp only [gName]
      obtain ⟨k1, hk1, hkn1⟩ := mod_nat (z * 48271 % 2147483647 / 37) (by omega : 0 < n)
      rw [hk1]
      refine ⟨_, rfl, _, _, rfl, rfl, ⟨by decide, by decide⟩, _, _, rfl, rfl, (by show (0 : Int) < 4; decide), ?_⟩
      dsimp only [gName]
      generalize z / 7 % 4 = wy
      refine st_norm (σ' := [some (.ref a), some (.int c), some (.int ((n : Nat) : Int)), some (.int ln), some (.ref h), some (.ref pK), some (.int z), some (.ref o), some (.bl b), some (.ref t1), some (.ref t2), some (.int ((k1 : Nat) : Int)), some (.int wy), v13]) rfl ?_
      refine cut (fun σ C' => C' = C ∧ ∃ b', b' = (b && decide (1 < wy)) ∧ σ = [some (.ref a), some (.int c), some (.int ((n : Nat) : Int)), some (.int ln), some (.ref h), some (.ref pK), some (.int z), some (.ref o), some (.bl b'), some (.ref t1), some (.ref t2), some (.int ((k1 : Nat) : Int)), some (.int wy), v13]) ?tlA fun tlA => ?hdA
      case hdA =>
        cases b with
        | true => exact ⟨_, rfl, true, rfl, iteT ⟨_, rfl, _, _, rfl, rfl, tlA _ _ ⟨rfl, _, rfl, rfl⟩⟩⟩
        | false => exact ⟨_, rfl, false, rfl, iteF (tlA _ _ ⟨rfl, false, rfl, rfl⟩)⟩
      rintro σ C9 ⟨rfl, b', hb', rfl⟩
      refine ⟨Nat.zero_le _, fun pq C1 m1 => ?_⟩
      dsimp only [gName]
      refine st_norm (σ' := [some (.ref a), some (.int c), some (.int ((n : Nat) : Int)), some (.int ln), some (.ref h), some (.ref pK), some (.int z), some (.ref o), some (.bl b'), some (.ref t1), some (.ref t2), some (.int ((k1 : Nat) : Int)), some (.int wy), some (.ref pq)]) rfl ?_
      have T1 := T.keep m1.2.1
      have pic11 := pic1.kt m1.2.1.kt
      have pic21 := pic2.kt m1.2.1.kt
      have eY1 := m1.2.1 _ _ eY
      clear T pic1 pic2 eY
      refine cut (fun σ C' => ∃ ts' v13 st2, σ = [some (.ref a), some (.int c), some (.int ((n : Nat) : Int)), some (.int ln), some (.ref h), some (.ref pK), some (.int z), some (.ref o), some (.bl b'), some (.ref t1), some (.ref t2), some (.int ((k1 : Nat) : Int)), some (.int wy), some v13] ∧ TW cH C' h pS o pO pK ln n (63 + 2 * i + 1) st2 st' ts' ∧ PicAt C' t1 st ∧ PicAt C' t2 st' ∧ C' pY = some (.lst (ms2.map V.int)) ∧ ((wy = 1 ∧ st2 = st) ∨ (wy ≠ 1 ∧ st2 = (comeL st ln k1 z).1 ∧ ∃ p ps, v13 = .ref p ∧ C' p = some (.lst (ps.map V.ref)) ∧ Lets C' ps (comeL st ln k1 z).2 ∧ p ∉ [o, pO, pK]))) ?tlB fun tlB => ?hdB
      case hdB =>
        refine ⟨_, rfl, .inl ⟨rfl, _, rfl, iteNe (fun hw => ?_) (fun hw => ?_)⟩⟩
        · refine ⟨_, rfl, _, rfl, _, rfl, _, rfl, _, rfl, ?_⟩
          dsimp only
          refine T1.use1 hkn1 n64 (by omega) fun p ps C2 us sb2 hp ep lp T2 => ?_
          have k12 := T1.kt1 sb2
          refine tlB _ _ ⟨ts ++ us, .ref p, _, rfl, T2, pic11.kt k12, pic21.kt k12, sb2 _ _ eY1 nY1, .inr ⟨hw, rfl, p, ps, rfl, ep, lp, fun y => ?_⟩⟩
          refine T1.al p ?_ hp
          simp only [List.mem_cons, List.not_mem_nil, or_false] at y ⊢
          rcases y with y | y | y <;> simp [y]
        · exact next_ (tlB _ _ ⟨ts, .ref pq, st, rfl, T1.m2 (Nat.le_succ _), pic11, pic21, eY1, .inl ⟨hw, rfl⟩⟩)
      clear T1 pic11 pic21 eY1 m1
      rintro σ C2 ⟨ts', v13', st2, rfl, T2, pic1, pic2, eY2, hcase⟩
      refine cut (fun σ C' => ∃ ts' st2 st2', σ = [some (.ref a), some (.int c), some (.int ((n : Nat) : Int)), some (.int ln), some (.ref h), some (.ref pK), some (.int z), some (.ref o), some (.bl b'), some (.ref t1), some (.ref t2), some (.int ((k1 : Nat) : Int)), some (.int wy), some v13'] ∧ TW cH C' h pS o pO pK ln n (63 + 2 * (i + 1)) st2 st2' ts' ∧ (b' = true → st2 = st2') ∧ C' pY = some (.lst (ms2.map V.int))) ?tlC fun tlC => ?hdC
      case hdC =>
        rcases hcase with ⟨rfl, rfl⟩ | ⟨hw, rfl, p13, ps13, rfl, e13, l13, n13⟩
        · refine ⟨_, rfl, .inl ⟨rfl, _, rfl, iteEq (fun _ => ?_) (fun z => absurd rfl z)⟩⟩
          refine ⟨_, rfl, _, rfl, _, rfl, _, rfl, _, rfl, ?_⟩
          dsimp only
          refine T2.use2 hkn1 n64 (by omega) fun p ps C3 us sb3 hp ep lp T3 => ?_
          have k23 := T2.kt2 sb3
          refine ⟨_, rfl, ?_⟩
          dsimp only
          refine T3.see1 (by omega) fun t3 C4 s4 p3 => ⟨_, rfl, rNeA.same (pic_shp T3.g1) (by decide) p3.rep ((pic1.kt k23).kt s4.kt).rep ⟨false, rfl, iteF ?_⟩⟩
          refine next_ (tlC _ _ ⟨_, _, _, rfl, (T3.keep s4).m2 (by omega), fun y => ?_, s4 _ _ (sb3 _ _ eY2 nY2)⟩)
          rw [hb'] at y
          simp at y
        · refine ⟨_, rfl, .inl ⟨rfl, _, rfl, iteEq (fun z => absurd z hw) (fun _ => ?_)⟩⟩
          cases b' with
          | true =>
            have hst : st = st' := hb (by
              have := hb'.symm
              rw [Bool.and_eq_true] at this
              exact this.1)
            subst hst
            refine ⟨_, rfl, true, rfl, iteT ?_⟩
            refine ⟨_, rfl, _, rfl, _, rfl, _, rfl, _, rfl, ?_⟩
            dsimp only
            have gd := comeL_good (c := z) T2.g2 hkn1
            refine T2.use2 hkn1 n64 (by omega) fun p ps C3 us sb3 hp ep lp T3 => ⟨_, rfl, ne_lets (fun l hl => near_isw (gd.2.1 l hl)) ep lp (sb3 _ _ e13 n13) (l13.kt (T2.kt2 sb3)) ⟨false, rfl, iteF ?_⟩⟩
            exact ⟨_, rfl, true, rfl, iteF (iteF (next_ (tlC _ _ ⟨_, _, _, rfl, T3.m2 (by omega), fun _ => rfl, sb3 _ _ eY2 nY2⟩)))⟩
          | false =>
            refine ⟨_, rfl, false, rfl, iteF (iteF ?_)⟩
            refine ⟨_, rfl, false, rfl, iteT ?_⟩
            refine ⟨_, rfl, ?_⟩
            dsimp only
            refine T2.see2 (by omega) fun t3 C4 s4 p3 => ⟨_, rfl, rNeA.same (pic_shp T2.g2) (by decide) p3.rep (pic2.kt s4.kt).rep ⟨false, rfl, iteF ?_⟩⟩
            exact next_ (tlC _ _ ⟨_, _, _, rfl, (T2.keep s4).m2 (by omega), (fun y => nomatch y), s4 _ _ eY2⟩)
      clear T2 pic1 pic2 eY2 hcase
      rintro σ C3 ⟨ts3, st3, st3', rfl, T3, heq, eY3⟩
      have hm3 : 63 + 2 * (i + 1) ≤ 300 := by omega
      refine ⟨_, rfl, ?_⟩
      dsimp only
      refine T3.see1 hm3 fun t4 C4 s4 p4 => ?_
      dsimp only [gName]
      refine ⟨_, rfl, ?_⟩
      dsimp only
      refine (T3.keep s4).see2 hm3 fun t5 C5 s5 p5 => ?_
      dsimp only [gName]
      refine st_norm (σ' := [some (.ref a), some (.int c), some (.int ((n : Nat) : Int)), some (.int ln), some (.ref h), some (.ref pK), some (.int z), some (.ref o), some (.bl b'), some (.ref t4), some (.ref t5), some (.int ((k1 : Nat) : Int)), some (.int wy), some v13']) rfl ?_
      have p45 := p4.kt s5.kt
      have T5 := (T3.keep s4).keep s5
      have eY5 := s5 _ _ (s4 _ _ eY3)
      have fin : ∃ st st' b t1 t2 ts v6 v11 v12 v13, [some (.ref a), some (.int c), some (.int ((n : Nat) : Int)), some (.int ln), some (.ref h), some (.ref pK), some (.int z), some (.ref o), some (.bl b'), some (.ref t4), some (.ref t5), some (.int ((k1 : Nat) : Int)), some (.int wy), some v13'] = [some (.ref a), some (.int c), some (.int ((n : Nat) : Int)), some (.int ln), some (.ref h), some (.ref pK), v6, some (.ref o), some (.bl b), some (.ref t1), some (.ref t2), v11, v12, v13] ∧ TW cH C5 h pS o pO pK ln n (63 + 2 * (i + 1)) st st' ts ∧ PicAt C5 t1 st ∧ PicAt C5 t2 st' ∧ (b = true → st = st') ∧ C5 pY = some (.lst (ms2.map V.int)) := ⟨st3, st3', b', t4, t5, ts3, _, _, _, _, rfl, T5, p45, p5, heq, eY5⟩
      refine ⟨_, rfl, rfl, _, rfl, iteD (fun z => nomatch z) (fun _ => ⟨_, rfl, rfl, _, rfl, iteD (fun z => nomatch z) (fun _ => ?_)⟩)⟩
      cases b' with
      | true =>
        obtain rfl := heq rfl
        exact ⟨_, rfl, true, rfl, iteT ⟨_, rfl, _, rfl, rNeA.same (pic_shp T5.g1) (by decide) p45.rep p5.rep ⟨false, rfl, iteF fin⟩⟩⟩
      | false => exact ⟨_, rfl, false, rfl, iteF (iteF fin)⟩
    · clear T3 T4 pic13 pic2 n9 s03
      rintro σ C ⟨st, st', b, t1, t2, ts, v6, v11, v12, v13, rfl, T, pic1, pic2, hb, eY⟩
      rw [List.length_map] at T
      have hm3 : 63 + 2 * ms2.length ≤ 300 := by omega
      refine ⟨_, rfl, ?_⟩
      dsimp only
      refine T.see1 hm3 fun t4 C4 s4 p4 => ⟨_, rfl, rEqA.same (pic_shp T.g1) (by decide) p4.rep (pic1.kt s4.kt).rep ⟨true, rfl, iteT ?_⟩⟩
      refine ⟨_, rfl, ?_⟩
      dsimp only
      have T4 := T.keep s4
      refine T4.see2 hm3 fun t5 C5 s5 p5 => ⟨_, rfl, rEqA.same (pic_shp T.g2) (by decide) p5.rep ((pic2.kt s4.kt).kt s5.kt).rep ⟨true, rfl, iteT ?_⟩⟩
      have T5 := T4.keep s5
      exact ⟨_, rfl, pK, _, ts, rfl, T5.eK, T5.hh, fun H' _ => kk H'⟩
end
end K36

set_option Elab.async false
set_option linter.all false
set_option maxRecDepth 100000
set_option maxHeartbeats 1000000
namespace K36
open PySem L2
theorem fin {l : PySem.W.OpenLaw} {w : World} {K : PySem.W.Frag} {mg : Str → Option Value} {h : Heap} {fa cH aH aN cW aA cU tD : Addr} {cT : Value} {dT : Option Addr} {nT : Nat} {slT : Array (Option Value)} (KX : K.In h) (G : h.Ns mainGlobals mg) (hfa : mg "law" = some (.ref fa))
    (twith_near : TopFn K "with_near" sPWith)
    (twithout_near : TopFn K "without_near" sPWithout)
    (tnears_in : TopFn K "nears_in" sPNears)
    (tto_home : TopFn K "to_home" sPTo)
    (tmake_letter : TopFnD K "make_letter" sPMk (.ref tD))
    (lT : K.lookup tD = some ⟨cT, dT, .seq #[.none] nT, slT⟩)
    (kH : TopCls K "Home" cH)
    (iH : InitF K cH "Home.__init__" sHome_init .none)
    (m_letter_of : MthF K cH "letter_of" "Home.letter_of" sHome_letter_of .none)
    (m_far : MthF K cH "far" "Home.far" sHome_far .none)
    (m_book : MthF K cH "book" "Home.book" sHome_book .none)
    (m_row : MthF K cH "row" "Home.row" sHome_row .none)
    (m_has_asked : MthF K cH "has_asked" "Home.has_asked" sHome_has_asked .none)
    (m_awaits : MthF K cH "awaits" "Home.awaits" sHome_awaits .none)
    (m_strike_out : MthF K cH "strike_out" "Home.strike_out" sHome_strike_out .none)
    (m_grant : MthF K cH "grant" "Home.grant" sHome_grant .none)
    (m_call_in : MthF K cH "call_in" "Home.call_in" sHome_call_in .none)
    (m_begin : MthF K cH "begin" "Home.begin" sHome_begin .none)
    (m_work_on : MthF K cH "work_on" "Home.work_on" sHome_work_on .none)
    (m_hear : MthF K cH "hear" "Home.hear" sHome_hear .none)
    (m_come : MthF K cH "come" "Home.come" sHome_come .none)
    (m_work : MthF K cH "work" "Home.work" sHome_work .none)
    (m_picture : MthF K cH "picture" "Home.picture" sHome_picture .none)
    (m_twin : MthF K cH "twin" "Home.twin" sHome_twin .none)
    (aT : (["line", "near_count", "far_words", "writer", "readers", "standing", "at_work", "awaited_word", "awaited_nears"] : List Str).all (fun f => PySem.W.findIn K (.ref cH) f == some none) = true)
    (g_HOME_WORDS : PySem.W.nsIn K mainGlobals "HOME_WORDS" = some (some (.ref aH)))
    (g_NEAR_WORDS : PySem.W.nsIn K mainGlobals "NEAR_WORDS" = some (some (.ref aN)))
    (g_NoWord : PySem.W.nsIn K mainGlobals "NoWord" = some (some (.ref cW)))
    (g_ASKING : PySem.W.nsIn K mainGlobals "ASKING" = some (some (.ref aA)))
    (g_Unawaited : PySem.W.nsIn K mainGlobals "Unawaited" = some (some (.ref cU)))
    (qH : ∀ H, SqT K H aH homeVs)
    (qN : ∀ H, SqT K H aN nearVs)
    (qA : ∀ H, SqT K H aA askVs)
    (x_cW : ExcK K cW)
    (x_cU : ExcK K cU)
    (t_law_seen : TopFn K "_law_seen" sSeen)
    (t_law_whole_seen : TopFn K "_law_whole_seen" sWhole)
    (t_law_letter : TopFn K "_law_letter" sLetter)
    (t_law_come : TopFn K "_law_come" sComeL)
    (t_law_held : TopFn K "_law_held" sHeld)
    (t_law_place : TopFn K "_law_place" sPlace)
    (tlaw : TopFn K "law" sLaw)
    (z_isinstance : PySem.W.nsIn K mainGlobals "isinstance" = some none)
    (z_str : PySem.W.nsIn K mainGlobals "str" = some none)
    (z_range : PySem.W.nsIn K mainGlobals "range" = some none)
    (z_list : PySem.W.nsIn K mainGlobals "list" = some none)
    (z_any : PySem.W.nsIn K mainGlobals "any" = some none)
    (z_len : PySem.W.nsIn K mainGlobals "len" = some none)
    (z_sorted : PySem.W.nsIn K mainGlobals "sorted" = some none)
    (z_tuple : PySem.W.nsIn K mainGlobals "tuple" = some none)
    (z_int : PySem.W.nsIn K mainGlobals "int" = some none)
    (z_max : PySem.W.nsIn K mainGlobals "max" = some none)
    (z_min : PySem.W.nsIn K mainGlobals "min" = some none) :
    ∃ fd : FuncData, (∀ (s : Shared) (v : Value), BindsTo s fd ⟨[v], []⟩ [("_law_script", v)]) ∧ ∀ base : Heap, K.In base → base.Ns mainGlobals mg → FnOk l.prog w K mg base CX0 10 fa fd ["_law_script"] (spLaw K) := by
  have Z : Bl mg := ⟨PySem.W.mg_none_of KX G z_isinstance, PySem.W.mg_none_of KX G z_str, PySem.W.mg_none_of KX G z_range, PySem.W.mg_none_of KX G z_list, PySem.W.mg_none_of KX G z_any, PySem.W.mg_none_of KX G z_len, PySem.W.mg_none_of KX G z_sorted, PySem.W.mg_none_of KX G z_tuple, PySem.W.mg_none_of KX G z_int, PySem.W.mg_none_of KX G z_max, PySem.W.mg_none_of KX G z_min⟩
  have TL : TxL K mg aH aN cW := ⟨PySem.W.mg_of KX G g_HOME_WORDS, PySem.W.mg_of KX G g_NEAR_WORDS, qH, qN, PySem.W.mg_of KX G g_NoWord, x_cW⟩
  have TH : TxH K mg aA cU := ⟨PySem.W.mg_of KX G g_ASKING, qA, PySem.W.mg_of KX G g_Unawaited, x_cU⟩
  have NA : ∀ f, f ∈ (["line", "near_count", "far_words", "writer", "readers", "standing", "at_work", "awaited_word", "awaited_nears"] : List Str) → NoAttr K cH f := fun f hf => beq_iff_eq.mp (List.all_eq_true.mp aT f hf)
  have S : HCl K cH := ⟨kH.ins.cl, NA _ (by simp), NA _ (by simp), NA _ (by simp), NA _ (by simp), NA _ (by simp), NA _ (by simp), NA _ (by simp), NA _ (by simp), NA _ (by simp)⟩
  refine tlaw.law KX G hfa (fun _ _ _ _ _ _ _ => rfl) fun base _ _ f fd F => ?_
  have Cwith_near : CalD l.prog w K mg base (CXE l.prog w) 1 "with_near" ["bits", "near"] [] spWith := twith_near.calD KX G (fun f fd F => (ok_with F).toE) fun _ _ _ _ _ _ us hl => match us, hl with | [_, _], _ => rfl
  have Cwithout_near : CalD l.prog w K mg base (CXE l.prog w) 1 "without_near" ["bits", "near"] [] spWithout := twithout_near.calD KX G (fun f fd F => (ok_without F).toE) fun _ _ _ _ _ _ us hl => match us, hl with | [_, _], _ => rfl
  have Cnears_in : CalD l.prog w K mg base (CXE l.prog w) 1 "nears_in" ["bits"] [] spNears := tnears_in.calD KX G (fun f fd F => (ok_nears F Z).toE) fun _ _ _ _ _ _ us hl => match us, hl with | [_], _ => rfl
  have Cto_home : CalD l.prog w K mg base (CXE l.prog w) 1 "to_home" ["word"] [] spTo := tto_home.calD KX G (fun f fd F => (ok_to F Z TL)) fun _ _ _ _ _ _ us hl => match us, hl with | [_], _ => rfl
  have Cmake_letter : CalD l.prog w K mg base (CXE l.prog w) 2 "make_letter" ["word", "line", "near", "words"] [] spMkL := tmake_letter.calD (ds := []) KX G (fun f fd F => ok_mkl F Cto_home) (fun s _ _ _ _ _ _ us KI hl => match us, hl with | [_, _, _, _], _ => BindsTo.of_defaults rfl (KI _ _ lT) rfl rfl rfl) .nil
  have Cmake_letter_d1 : CalD l.prog w K mg base (CXE l.prog w) 2 "make_letter" ["word", "line", "near", "words"] [.non] spMkL := tmake_letter.calD (ds := [.none]) KX G (fun f fd F => ok_mkl F Cto_home) (fun s _ _ _ _ _ _ us KI hl => match us, (show us.length = 3 by simpa using hl) with | [_, _, _], _ => BindsTo.of_defaults rfl (KI _ _ lT) rfl rfl rfl) (.cons rfl .nil)
  have M_letter_of : MS l.prog w K mg base 3 (RR cH (spLetterOf cH)) "letter_of" := by
    rintro C dvs sp ⟨rfl, rfl, rfl⟩
    exact m_letter_of.ok (ds := []) kH.ins.cl (fun f fd F => ok_letter_of F S Cmake_letter) (fun s _ _ _ _ _ _ us KI hl => match us, hl with | [_, _, _, _], _ => .of_eq rfl) .nil
  have M_far : MS l.prog w K mg base 1 (RR cH (spFar cH)) "far" := by
    rintro C dvs sp ⟨rfl, rfl, rfl⟩
    exact m_far.ok (ds := []) kH.ins.cl (fun f fd F => ok_far F S) (fun s _ _ _ _ _ _ us KI hl => match us, hl with | [_], _ => .of_eq rfl) .nil
  have M_book : MS l.prog w K mg base 2 (RR cH (spBook cH)) "book" := by
    rintro C dvs sp ⟨rfl, rfl, rfl⟩
    exact m_book.ok (ds := []) kH.ins.cl (fun f fd F => ok_book F S Cnears_in) (fun s _ _ _ _ _ _ us KI hl => match us, hl with | [_], _ => .of_eq rfl) .nil
  have M_row : MS l.prog w K mg base 1 (RR cH (spRowH cH)) "row" := by
    rintro C dvs sp ⟨rfl, rfl, rfl⟩
    exact m_row.ok (ds := []) kH.ins.cl (fun f fd F => ok_rowH F Z S) (fun s _ _ _ _ _ _ us KI hl => match us, hl with | [_], _ => .of_eq rfl) .nil
  have M_has_asked : MS l.prog w K mg base 1 (RR cH (spAsked cH)) "has_asked" := by
    rintro C dvs sp ⟨rfl, rfl, rfl⟩
    exact m_has_asked.ok (ds := []) kH.ins.cl (fun f fd F => ok_has_asked F Z S) (fun s _ _ _ _ _ _ us KI hl => match us, hl with | [_, _], _ => .of_eq rfl) .nil
  have M_awaits : MS l.prog w K mg base 2 (RR cH (spAwaits cH)) "awaits" := by
    rintro C dvs sp ⟨rfl, rfl, rfl⟩
    exact m_awaits.ok (ds := []) kH.ins.cl (fun f fd F => ok_awaits F Z TH S Cnears_in M_has_asked) (fun s _ _ _ _ _ _ us KI hl => match us, hl with | [_, _], _ => .of_eq rfl) .nil
  have M_strike_out : MS l.prog w K mg base 2 (RR cH (spStrike cH)) "strike_out" := by
    rintro C dvs sp ⟨rfl, rfl, rfl⟩
    exact m_strike_out.ok (ds := []) kH.ins.cl (fun f fd F => ok_strike_out F S Cwithout_near) (fun s _ _ _ _ _ _ us KI hl => match us, hl with | [_, _], _ => .of_eq rfl) .nil
  have M_grant : MS l.prog w K mg base 4 (RR cH (spGrant cH)) "grant" := by
    rintro C dvs sp ⟨rfl, rfl, rfl⟩
    exact m_grant.ok (ds := []) kH.ins.cl (fun f fd F => ok_grant F S Cwith_near M_letter_of) (fun s _ _ _ _ _ _ us KI hl => match us, hl with | [_], _ => .of_eq rfl) .nil
  have M_call_in : MS l.prog w K mg base 5 (RR cH (spCallIn cH)) "call_in" := by
    rintro C dvs sp ⟨rfl, rfl, rfl⟩
    exact m_call_in.ok (ds := []) kH.ins.cl (fun f fd F => ok_call_in F S Cnears_in M_letter_of M_grant) (fun s _ _ _ _ _ _ us KI hl => match us, hl with | [_, _, _, _], _ => .of_eq rfl) .nil
  have M_begin : MS l.prog w K mg base 6 (RR cH (spBegin cH)) "begin" := by
    rintro C dvs sp ⟨rfl, rfl, rfl⟩
    exact m_begin.ok (ds := []) kH.ins.cl (fun f fd F => ok_begin F S Cwith_near Cwithout_near M_strike_out M_letter_of M_call_in) (fun s _ _ _ _ _ _ us KI hl => match us, hl with | [_, _], _ => .of_eq rfl) .nil
  have M_work_on : MS l.prog w K mg base 7 (RR cH (spWorkOn cH)) "work_on" := by
    rintro C dvs sp ⟨rfl, rfl, rfl⟩
    exact m_work_on.ok (ds := []) kH.ins.cl (fun f fd F => ok_work_on F S M_begin) (fun s _ _ _ _ _ _ us KI hl => match us, hl with | [_], _ => .of_eq rfl) .nil
  have M_hear : MS l.prog w K mg base 5 (RR cH (spHear cH)) "hear" := by
    rintro C dvs sp ⟨rfl, rfl, rfl⟩
    exact m_hear.ok (ds := []) kH.ins.cl (fun f fd F => ok_hear F S Cwith_near Cwithout_near M_strike_out M_grant) (fun s _ _ _ _ _ _ us KI hl => match us, hl with | [_, _], _ => .of_eq rfl) .nil
  have M_come : MS l.prog w K mg base 8 (RR cH (spCome cH cU)) "come" := by
    rintro C dvs sp ⟨rfl, rfl, rfl⟩
    exact m_come.ok (ds := []) kH.ins.cl (fun f fd F => ok_come F Z TH S M_awaits M_work_on M_hear) (fun s _ _ _ _ _ _ us KI hl => match us, hl with | [_, _], _ => .of_eq rfl) .nil
  have M_work : MS l.prog w K mg base 2 (RR cH (spWork cH)) "work" := by
    rintro C dvs sp ⟨rfl, rfl, rfl⟩
    exact m_work.ok (ds := []) kH.ins.cl (fun f fd F => ok_workH F S Cnears_in) (fun s _ _ _ _ _ _ us KI hl => match us, hl with | [_], _ => .of_eq rfl) .nil
  have M_picture : MS l.prog w K mg base 3 (RR cH (spPicture cH)) "picture" := by
    rintro C dvs sp ⟨rfl, rfl, rfl⟩
    exact m_picture.ok (ds := []) kH.ins.cl (fun f fd F => ok_picture F Z S M_work Cnears_in) (fun s _ _ _ _ _ _ us KI hl => match us, hl with | [_], _ => .of_eq rfl) .nil
  have K_Home : MkOk l.prog w K mg base (CXE l.prog w) 1 "Home" cH [] (spHInit cH) := iH.ok (ds := []) (PySem.W.mg_of KX G kH.ns) (fun f fd F => ok_hinit F S) (fun s _ _ _ _ _ _ us KI hl => match us, hl with | [_, _, _, _], _ => .of_eq rfl) .nil
  have M_twin : MS l.prog w K mg base 3 (RR cH (spTwin cH)) "twin" := by
    rintro C dvs sp ⟨rfl, rfl, rfl⟩
    exact m_twin.ok (ds := []) kH.ins.cl (fun f fd F => ok_twin F Z S K_Home) (fun s _ _ _ _ _ _ us KI hl => match us, hl with | [_], _ => .of_eq rfl) .nil
  have C_law_seen : CalD l.prog w K mg base (CXE l.prog w) 3 "_law_seen" ["_law_home"] [] (spSeen cH) := t_law_seen.calD KX G (fun f fd F => (ok_Seen F Z M_book M_row M_work M_far).toE) fun _ _ _ _ _ _ us hl => match us, hl with | [_], _ => rfl
  have C_law_whole_seen : CalD l.prog w K mg base (CXE l.prog w) 4 "_law_whole_seen" ["_law_home"] [] (spWhole cH) := t_law_whole_seen.calD KX G (fun f fd F => (ok_Whole F Z C_law_seen M_picture).toE) fun _ _ _ _ _ _ us hl => match us, hl with | [_], _ => rfl
  have C_law_letter : CalD l.prog w K mg base (CXE l.prog w) 4 "_law_letter" ["_law_home", "_law_line", "_law_near", "_law_cell"] [] (spLetter cH) := t_law_letter.calD KX G (fun f fd F => (ok_Letter F Z M_picture Cmake_letter Cmake_letter_d1).toE) fun _ _ _ _ _ _ us hl => match us, hl with | [_, _, _, _], _ => rfl
  have C_law_come : CalD l.prog w K mg base (CXE l.prog w) 9 "_law_come" ["_law_home", "_law_line", "_law_near", "_law_cell", "_law_held_here"] [] (spComeL cH) := t_law_come.calD KX G (fun f fd F => (ok_ComeL F Z C_law_letter M_come M_row M_book M_work).toE) fun _ _ _ _ _ _ us hl => match us, hl with | [_, _, _, _, _], _ => rfl
  have C_law_held : CalD l.prog w K mg base (CXE l.prog w) 1 "_law_held" ["_law_held_here"] [] spHeld := t_law_held.calD KX G (fun f fd F => (ok_Held F Z).toE) fun _ _ _ _ _ _ us hl => match us, hl with | [_], _ => rfl
  have C_law_place : CalD l.prog w K mg base (CXE l.prog w) 1 "_law_place" ["_law_script", "_law_first"] [] (spPlace K) := t_law_place.calD KX G (fun f fd F => (ok_Place F Z).toE) fun _ _ _ _ _ _ us hl => match us, hl with | [_, _], _ => rfl
  exact ok_Law F Z C_law_place C_law_come C_law_whole_seen C_law_held M_twin K_Home
end K36
open PySem PySem.W PyProof.Rows
local macro_rules | `(tactic| walk_at "top fn") => `(tactic| (refine' L2.topFn_mk ?ta ?tl ?tc ?tk; (case ta => k_is); (case tl => k_is); (case tc => k_is); (case tk => k_is)))
local macro_rules | `(tactic| walk_at "top cls") => `(tactic| (refine' L2.topCls_mk ?ca ?cb ?cc ?cd ?ce ?cf ?cg ?ch ?ci; (case ca => k_is); (case cb => k_is); (case cc => k_is); (case cd => k_is); (case ce => k_is); (case cf => k_is); (case cg => k_is); (case ch => k_is); (case ci => k_is)))
local macro_rules | `(tactic| walk_at "mth") => `(tactic| (refine' L2.mthF_mk ?ma ?mb ?mc ?md ?me; (case ma => k_is); (case mb => k_is); (case mc => k_is); (case md => k_is); (case me => k_is)))
local macro_rules | `(tactic| walk_at "mtha") => `(tactic| (refine' L2.mthA_mk ?ma ?mb ?mc ?md ?me ?mf; (case ma => k_is); (case mb => k_is); (case mc => k_is); (case md => k_is); (case me => k_is); (case mf => kernel_rfl)))
local macro_rules | `(tactic| walk_at "cmth") => `(tactic| (refine' L2.cmthF_mk ?mn ?ma ?mg ?mr ?mf ?mc ?md ?me; (case mn => k_is); (case ma => k_is); (case mg => k_is); (case mr => k_is); (case mf => kernel_rfl); (case mc => k_is); (case md => k_is); (case me => k_is)))
local macro_rules | `(tactic| walk_at "init") => `(tactic| (refine' L2.initF_mk ?ia ?ib ?ic ?id ?ie ?if' ?ig; (case ia => k_is); (case ib => k_is); (case ic => k_is); (case id => k_is); (case ie => k_is); (case if' => k_is); (case ig => k_is)))
local macro_rules | `(tactic| walk_at "exck") => `(tactic| (refine' L2.excK_mk ?eW ?nW ?bW (L2.TailK.own ?tA ?tB ?tC .base); (case eW => k_is); (case nW => k_is); (case bW => kernel_rfl); (case tA => k_is); (case tB => k_is); (case tC => kernel_rfl)))
local macro_rules | `(tactic| walk_at "exct") => `(tactic| (refine' L2.ExcT.mk ?xa ?xb ?xc ?xd ?xe ?xf ?xg ?xh; (case xa => k_is); (case xb => k_is); (case xc => k_is); (case xd => k_is); (case xe => k_is); (case xf => k_is); (case xg => k_is); (case xh => k_is)))
local macro_rules | `(tactic| walk_at "forms") => `(tactic| (refine' L2.formsK_mk ?fl (L2.tupK2_mk ?f0) (L2.tupK2_mk ?f1) (L2.tupK2_mk ?f2) (L2.tupK2_mk ?f3); (case fl => k_is); (case f0 => k_is); (case f1 => k_is); (case f2 => k_is); (case f3 => k_is)))
local macro_rules | `(tactic| walk_at "mkn") => `(tactic| (refine' L2.MkN.mk ?na ?nb ?nc; (case na => k_is); (case nb => k_is); (case nc => k_is)))
local macro_rules | `(tactic| walk_at "top fnd") => `(tactic| (refine' L2.topFnD_mk ?ta ?tl ?tc ?tk; (case ta => k_is); (case tl => k_is); (case tc => k_is); (case tk => k_is)))
local macro_rules | `(tactic| walk_at "sq6") => `(tactic| (refine' L2.sq_mk ?la ?ls ?lv; (case la => k_is); (case ls => decide); (case lv => exact .cons ⟨_, rfl⟩ (.cons ⟨_, rfl⟩ (.cons ⟨_, rfl⟩ (.cons ⟨_, rfl⟩ (.cons ⟨_, rfl⟩ (.cons ⟨_, rfl⟩ .nil))))))))
local macro_rules | `(tactic| walk_at "sq5") => `(tactic| (refine' L2.sq_mk ?la ?ls ?lv; (case la => k_is); (case ls => decide); (case lv => exact .cons ⟨_, rfl⟩ (.cons ⟨_, rfl⟩ (.cons ⟨_, rfl⟩ (.cons ⟨_, rfl⟩ (.cons ⟨_, rfl⟩ .nil)))))))
local macro_rules | `(tactic| walk_at "sq3") => `(tactic| (refine' L2.sq_mk ?la ?ls ?lv; (case la => k_is); (case ls => decide); (case lv => exact .cons ⟨_, rfl⟩ (.cons ⟨_, rfl⟩ (.cons ⟨_, rfl⟩ .nil)))))
set_option maxRecDepth 100000 in
set_option maxHeartbeats 0 in
theorem PySem.Challenge.cw_linewarden_k36_home_twins_holds : PySem.Challenge.rw_linewarden_k36_home_twins.Holds := by
  w_on; o_law; k_head; (case hw => w_witness2)
  k_fill
  refine L2.walk63 (l := PySem.Challenge.rw_linewarden_k36_home_twins) (CX := fun _ => L2.CX0) (k := 10) ⟨rfl, by decide, by decide⟩ rfl rfl (fun w h Y => PySem.W.kIn_of Y) ?F (fun _ _ _ _ _ z => z)
  case F =>
    intro w mg fa h KX G hmg
    refine' K36.fin KX G hmg ?htwith_near ?htwithout_near ?htnears_in ?htto_home ?htmake_letter ?hlT ?hkH ?hiH ?hm_letter_of ?hm_far ?hm_book ?hm_row ?hm_has_asked ?hm_awaits ?hm_strike_out ?hm_grant ?hm_call_in ?hm_begin ?hm_work_on ?hm_hear ?hm_come ?hm_work ?hm_picture ?hm_twin ?haT ?hg_HOME_WORDS ?hg_NEAR_WORDS ?hg_NoWord ?hg_ASKING ?hg_Unawaited ?hqH ?hqN ?hqA ?hx_cW ?hx_cU ?ht_law_seen ?ht_law_whole_seen ?ht_law_letter ?ht_law_come ?ht_law_held ?ht_law_place ?htlaw ?hz_isinstance ?hz_str ?hz_range ?hz_list ?hz_any ?hz_len ?hz_sorted ?hz_tuple ?hz_int ?hz_max ?hz_min
    (case htwith_near => walk_at "top fn")
    (case htwithout_near => walk_at "top fn")
    (case htnears_in => walk_at "top fn")
    (case htto_home => walk_at "top fn")
    (case htmake_letter => walk_at "top fnd")
    (case hlT => k_is)
    (case hkH => walk_at "top cls")
    (case hiH => walk_at "init")
    (case hm_letter_of => walk_at "mth")
    (case hm_far => walk_at "mth")
    (case hm_book => walk_at "mth")
    (case hm_row => walk_at "mth")
    (case hm_has_asked => walk_at "mth")
    (case hm_awaits => walk_at "mth")
    (case hm_strike_out => walk_at "mth")
    (case hm_grant => walk_at "mth")
    (case hm_call_in => walk_at "mth")
    (case hm_begin => walk_at "mth")
    (case hm_work_on => walk_at "mth")
    (case hm_hear => walk_at "mth")
    (case hm_come => walk_at "mth")
    (case hm_work => walk_at "mth")
    (case hm_picture => walk_at "mth")
    (case hm_twin => walk_at "mth")
    (case haT => kernel_rfl)
    (case hg_HOME_WORDS => k_is)
    (case hg_NEAR_WORDS => k_is)
    (case hg_NoWord => k_is)
    (case hg_ASKING => k_is)
    (case hg_Unawaited => k_is)
    (case hqH => walk_at "sq6")
    (case hqN => walk_at "sq5")
    (case hqA => walk_at "sq3")
    (case hx_cW => walk_at "exck")
    (case hx_cU => walk_at "exck")
    (case ht_law_seen => walk_at "top fn")
    (case ht_law_whole_seen => walk_at "top fn")
    (case ht_law_letter => walk_at "top fn")
    (case ht_law_come => walk_at "top fn")
    (case ht_law_held => walk_at "top fn")
    (case ht_law_place => walk_at "top fn")
    (case htlaw => walk_at "top fn")
    (case hz_isinstance => k_is)
    (case hz_str => k_is)
    (case hz_range => k_is)
    (case hz_list => k_is)
    (case hz_any => k_is)
    (case hz_len => k_is)
    (case hz_sorted => k_is)
    (case hz_tuple => k_is)
    (case hz_int => k_is)
    (case hz_max => k_is)
    (case hz_min => k_is)
