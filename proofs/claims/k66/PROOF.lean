import PyProof.Rows.All
import Wide.All
import OpenK.AllK
import Wide.FinOn
import Lean
import PyProof.EqAt
import PyProof.EqKinds
import PyProof.TupleCall
import KE.KRevIter
import PyProof.CollectIter
import PyProof.EnumFor
import PyProof.EnumMake
import PyProof.ListRange
import PyProof.P3In
import PyProof.Rows.RuleM_int
import PyProof.TupleIter
import PySem.Challenge.RW_linewarden_k66_last_words_made_up
set_option Elab.async false
set_option linter.all false
set_option maxRecDepth 100000
/-! THE HAND LAYER, for ints, bools, texts, own classes, LISTS and tuples (index, slices, in, append, pop ..), calls, loops. Paste it whole ahead of your own text; what your proof does not reach may be deleted. -/
namespace L2
open PySem PySem.Spec PyProof.Rows

/-- a key: an int or a str -/
abbrev Key := Sum Int Str
def keyIs : Key → Value → Bool
  | .inl k, v => Value.isInt k v
  | .inr x, v => Value.isStrOf x v
def keyH (w : World) : Key → Int
  | .inl k => hashInt k
  | .inr x => hashStr w x
theorem keyIs_shape : ∀ {k : Key} {v : Value}, keyIs k v = true → (∃ i t, k = Sum.inl i ∧ v = Value.int i t) ∨ (∃ x t, k = Sum.inr x ∧ v = Value.str x t)
  | .inl i, v, h => by
    obtain ⟨t, e⟩ := Value.isInt_shape (k := i) (v := v) h
    exact .inl ⟨i, t, rfl, e⟩
  | .inr x, v, h => by
    obtain ⟨t, e⟩ := Value.isStrOf_shape (x := x) (v := v) h
    exact .inr ⟨x, t, rfl, e⟩
theorem key_ll (a b : Int) : decide ((Sum.inl a : Key) = Sum.inl b) = (a == b) := by
  by_cases e : a = b
  · subst e; simp
  · have h : ¬ (Sum.inl a : Key) = Sum.inl b := fun q => e (Sum.inl.inj q)
    rw [decide_eq_false h]
    exact (beq_eq_false_iff_ne.mpr e).symm
theorem key_rr (a b : Str) : decide ((Sum.inr a : Key) = Sum.inr b) = decide (a = b) := by
  by_cases e : a = b
  · subst e; simp
  · have h : ¬ (Sum.inr a : Key) = Sum.inr b := fun q => e (Sum.inr.inj q)
    rw [decide_eq_false h, decide_eq_false e]
theorem key_lr (a : Int) (b : Str) : decide ((Sum.inl a : Key) = Sum.inr b) = false := decide_eq_false (fun q => nomatch q)
theorem key_rl (a : Str) (b : Int) : decide ((Sum.inr a : Key) = Sum.inl b) = false := decide_eq_false (fun q => nomatch q)

def mixKind (prog : Program) (w : World) : PySem.KeyKind prog w Key where
  is := keyIs
  hash := keyH w
  inj := fun v a b ha hb => by
    rcases keyIs_shape ha with ⟨i, t, rfl, rfl⟩ | ⟨x, t, rfl, rfl⟩
    · rcases keyIs_shape hb with ⟨j, u, rfl, e⟩ | ⟨y, u, rfl, e⟩
      · injection e with e1 _; rw [e1]
      · exact nomatch e
    · rcases keyIs_shape hb with ⟨j, u, rfl, e⟩ | ⟨y, u, rfl, e⟩
      · exact nomatch e
      · injection e with e1 _; rw [e1]
  byValue := fun k v h => by
    rcases keyIs_shape h with ⟨i, t, rfl, rfl⟩ | ⟨x, t, rfl, rfl⟩ <;> rfl
  pyHash := fun hv h => by
    rcases keyIs_shape hv with ⟨i, t, rfl, rfl⟩ | ⟨x, t, rfl, rfl⟩
    · exact wpAny_pyHash_int h
    · exact wpAny_pyHash_str h
  eqBool := fun hu hv h => by
    rcases keyIs_shape hu with ⟨i, t, rfl, rfl⟩ | ⟨x, t, rfl, rfl⟩
    · rcases keyIs_shape hv with ⟨j, u, rfl, rfl⟩ | ⟨y, u, rfl, rfl⟩
      · rw [key_ll] at h; exact wpAny_eqBool_int h
      · rw [key_lr] at h; exact SeqAt.EqAt.int_str i t y u _ _ _ _ h
    · rcases keyIs_shape hv with ⟨j, u, rfl, rfl⟩ | ⟨y, u, rfl, rfl⟩
      · rw [key_rl] at h; exact SeqAt.EqAt.str_int x t j u _ _ _ _ h
      · rw [key_rr] at h; exact wpAny_eqBool_str h
  «strs» := fun k x t v h => by
    rcases keyIs_shape h with ⟨i, u, rfl, e⟩ | ⟨y, u, rfl, e⟩
    · exact nomatch e
    · injection e with e1 _
      subst e1
      cases v <;> rfl

end L2

namespace L2
open PySem PySem.Spec PyProof.Rows

/-- a value, without the heap -/
inductive V where
  | non | bl (b : Bool) | int (i : Int) | str (x : Str) | byt (b : Array UInt8) | flt (b : UInt64) | ref (a : Addr) | ty (n : String)
  deriving DecidableEq

def RelV : V → Value → Prop
  | .non, u => u = Value.none
  | .bl b, u => u = Value.bool b
  | .int i, u => ∃ t, u = Value.int i t
  | .str x, u => ∃ t, u = Value.str x t
  | .byt b, u => ∃ t, u = Value.bytes b t
  | .flt b, u => ∃ t, u = Value.float b t
  | .ref a, u => u = Value.ref a
  | .ty n, u => u = Value.type n

abbrev Vals : List V → List Value → Prop := Paired RelV
theorem Vals.length {xs : List V} {us : List Value} (r : Vals xs us) : xs.length = us.length := Paired.length r
theorem Vals.get : ∀ {xs : List V} {us : List Value} {i : Nat} {x : V}, Vals xs us → xs[i]? = some x → ∃ u, us[i]? = some u ∧ RelV x u
  | _, _, _, _, .nil, e => by simp at e
  | _, _, 0, _, .cons r _, e => by simp at e; subst e; exact ⟨_, rfl, r⟩
  | _, _, i + 1, x, .cons _ t, e => by
    obtain ⟨u, h1, h2⟩ := Vals.get (i := i) (x := x) t (by simpa using e)
    exact ⟨u, by simpa using h1, h2⟩
theorem Vals.set {x : V} {u : Value} (r : RelV x u) : ∀ {xs : List V} {us : List Value} (i : Nat), Vals xs us → Vals (xs.set i x) (us.set i u)
  | _, _, _, .nil => .nil
  | _, _, 0, .cons _ t => .cons r t
  | _, _, i + 1, .cons q t => .cons q (Vals.set r i t)
theorem Vals.append : ∀ {xs ys : List V} {us ws : List Value}, Vals xs us → Vals ys ws → Vals (xs ++ ys) (us ++ ws)
  | _, _, _, _, .nil, s => s
  | _, _, _, _, .cons r t, s => .cons r (Vals.append t s)
theorem Vals.take : ∀ {xs : List V} {us : List Value} (n : Nat), Vals xs us → Vals (xs.take n) (us.take n)
  | _, _, 0, _ => .nil
  | _, _, _ + 1, .nil => .nil
  | _, _, n + 1, .cons r t => .cons r (Vals.take n t)
theorem Vals.drop : ∀ {xs : List V} {us : List Value} (n : Nat), Vals xs us → Vals (xs.drop n) (us.drop n)
  | _, _, 0, r => r
  | _, _, _ + 1, .nil => .nil
  | _, _, n + 1, .cons _ t => Vals.drop n t
def RelO : Option V → Option Value → Prop
  | some v, some u => RelV v u
  | none, none => True
  | _, _ => False
def KV {κ : Type} : List (κ × V) → List (κ × Value) → Prop := Paired fun (p : κ × V) (q : κ × Value) => p.1 = q.1 ∧ RelV p.2 q.2

/-- a key of a dict (00_mix): an int or a text -/
def kV : Key → V
  | .inl i => .int i
  | .inr x => .str x

/-- what stands at a tracked address -/
inductive HO where
  /-- a list -/
  | lst (xs : List V)
  /-- a tuple (never changes) -/
  | tup (xs : List V)
  /-- a dict whose keys are ints and texts; one whose keys are tuples of ints and texts (the empty one is both) -/
  | dK (kvs : List (Key × V)) | dT (kvs : List (List Key × V))
  /-- a set of ints: its members, its size -/
  | set (S : Int → Bool) (n : Nat)
  /-- an instance of the class at C, its dict at dx, its attributes -/
  | ins (C dx : Addr) (fs : List (Str × V))
  /-- the dict of the instance at x -/
  | own (x : Addr)
  /-- the dict of an exception -/
  | xd (fs : List (Str × V))
  /-- a bound method, f of x -/
  | met (f x : Addr)
  /-- a range object lo, lo + 1, .. below hi -/
  | rng (lo hi : Int)
  /-- a thing that is known to the object (the script; a dict while a loop walks it): read, never written while it is so -/
  | frz (o : Obj) (u : HO)
  /-- a code object's table -/
  | tbl (ps : Array Value)
  /-- any other thing, by what is true of its one object (a def of one's own: SetO a S n := HO.ext fun h => ..) -/
  | ext (φ : Heap → Prop)

abbrev Hp := Addr → Option HO
def upd (H : Hp) (a : Addr) (o : HO) : Hp := fun b => if b = a then some o else H b
theorem upd_same {H : Hp} {a : Addr} {o : HO} : upd H a o a = some o := by unfold upd; rw [if_pos rfl]
theorem upd_ne {H : Hp} {a b : Addr} {o : HO} (h : b ≠ a) : upd H a o b = H b := by unfold upd; rw [if_neg h]
/-- two objects of different content stand apart -/
theorem ne_of {H : Hp} {a b : Addr} {o u : HO} (h : H a = some o) (h' : H b = some u) (d : o ≠ u) : a ≠ b := by
  intro e; subst e; rw [h] at h'; exact d (Option.some.inj h')
theorem ne_of_none {H : Hp} {a b : Addr} {o : HO} (h : H a = some o) (h' : H b = none) : a ≠ b := by
  intro e; subst e; rw [h] at h'; cases h'

section
variable (P : Program) (w : World)
def ObjOk (H : Hp) (h : Heap) (a : Addr) : HO → Prop
  | .lst xs => xs.length ≤ sizeLine ∧ ∃ (its : List Value) (n : Nat), Vals xs its ∧ h.get? a = some { cls := .type "list", data := .seq its.toArray n }
  | .tup xs => xs.length ≤ sizeLine ∧ ∃ its : List Value, Vals xs its ∧ IsTup h a its.toArray
  | .dK kvs => kvs.length ≤ sizeLine ∧ (a == sysModules) = false ∧ ∃ vs, KV kvs vs ∧ h.DictOf (mixKind P w) a vs
  | .dT kvs => kvs.length ≤ sizeLine ∧ (a == sysModules) = false ∧ ∃ xs : List (List Key × Addr × Value),
      Paired (fun (p : List Key × V) (q : List Key × Addr × Value) => p.1 = q.1 ∧ H q.2.1 = some (.tup (p.1.map kV)) ∧ RelV p.2 q.2.2) kvs xs ∧
      ∃ o es ep, h.get? a = some o ∧ o.ExactDict ∧ o.data = .dict es ep ∧ es.toList = xs.map (entryOfKey (tupleKind (mixKind P w))) ∧ (xs.map (·.1)).Nodup
  | .set S n => h.SetOf (intKind P w) a S n
  | .ins C dx fs => H dx = some (.own a) ∧ fs.length ≤ 1000 ∧ dx ≠ a ∧ h.get? a = some (PySem.W.instObj C dx) ∧
      ∃ mA, h.Ns1 dx mA ∧ (∀ f, RelO (fs.lookup f) (mA f)) ∧ PySem.Within mA (fs.map (·.1))
  | .own _ => ∃ o, h.get? a = some o
  | .xd fs => ∃ mA, h.Ns1 a mA ∧ ∀ f, RelO (fs.lookup f) (mA f)
  | .rng lo hi => ∃ t u v, h.get? a = some { cls := .type "range", data := .fields #[.int lo t, .int hi u, .int 1 v] }
  | .frz o u => h.get? a = some o ∧ ObjOk H h a u
  | .tbl ps => h.get? a = some { cls := .none, data := .fields ps }
  | .met f x => h.get? a = some (PySem.W.methodObj (.ref f) (.ref x))
  | .ext φ => φ h ∧ (∃ o, h.get? a = some o) ∧ ∀ h1 h2 : Heap, φ h1 → (∀ o, h1.get? a = some o → h2.get? a = some o) → φ h2
/-- the abstract heap is held -/
def HOk (H : Hp) (h : Heap) : Prop := ∀ a o, H a = some o → ObjOk P w H h a o
end

section
variable {P : Program} {w : World} {H H' : Hp} {h h' : Heap} {a : Addr} {o : HO}
theorem ObjOk.lt (x : ObjOk P w H h a o) : a < h.objs.size := by
  cases o with
  | lst xs => obtain ⟨_, _, _, _, e⟩ := x; exact Heap.lt_size e
  | tup xs => obtain ⟨_, _, _, p⟩ := x; exact p.lt
  | dK kvs => obtain ⟨_, _, _, _, o, _, _, e, _⟩ := x; exact Heap.lt_size e
  | dT kvs => obtain ⟨_, _, _, _, o, _, _, e, _⟩ := x; exact Heap.lt_size e
  | set S n => obtain ⟨o, _, _, _, e, _⟩ := x; exact Heap.lt_size e
  | ins C dx fs => obtain ⟨_, _, _, e, _⟩ := x; exact Heap.lt_size e
  | own y => obtain ⟨_, e⟩ := x; exact Heap.lt_size e
  | xd fs => obtain ⟨_, ⟨_, _, _, e, _⟩, _⟩ := x; exact Heap.lt_size e
  | rng lo hi => obtain ⟨_, _, _, e⟩ := x; exact Heap.lt_size e
  | frz ob u => obtain ⟨e, _⟩ := x; exact Heap.lt_size e
  | tbl ps => exact Heap.lt_size (show h.get? a = some _ from x)
  | met f y => exact Heap.lt_size (show h.get? a = some _ from x)
  | ext φ => obtain ⟨_, ⟨_, e⟩, _⟩ := x; exact Heap.lt_size e
theorem Paired.mapP {α β : Type} {F G : α → β → Prop} : ∀ {l₁ : List α} {l₂ : List β}, Paired F l₁ l₂ → (∀ a b, F a b → G a b) → Paired G l₁ l₂
  | _, _, .nil, _ => .nil
  | _, _, .cons r t, f => .cons (f _ _ r) (Paired.mapP t f)
/-- what an object's description leans on: its own object, its own dict, the tuples -/
theorem ObjOk.stay (x : ObjOk P w H h a o) (k : ∀ b u, (b = a ∨ H b = some (.own a)) → h.get? b = some u → h'.get? b = some u)
    (ho : ∀ b, H b = some (.own a) → H' b = some (.own a)) (ht : ∀ b xs, H b = some (.tup xs) → H' b = some (.tup xs)) : ObjOk P w H' h' a o := by
  induction o with
  | lst xs => obtain ⟨z, its, n, r, e⟩ := x; exact ⟨z, its, n, r, k _ _ (.inl rfl) e⟩
  | tup xs => obtain ⟨z, its, r, ob, e, c⟩ := x; exact ⟨z, its, r, ob, k _ _ (.inl rfl) e, c⟩
  | dK kvs => obtain ⟨z, y, vs, r, ob, es, ep, e, c⟩ := x; exact ⟨z, y, vs, r, ob, es, ep, k _ _ (.inl rfl) e, c⟩
  | dT kvs =>
    obtain ⟨z, y, xs, r, ob, es, ep, e, c⟩ := x
    exact ⟨z, y, xs, Paired.mapP r fun p q z => ⟨z.1, ht _ _ z.2.1, z.2.2⟩, ob, es, ep, k _ _ (.inl rfl) e, c⟩
  | set S n => obtain ⟨ob, es, ep, t, e, c⟩ := x; exact ⟨ob, es, ep, t, k _ _ (.inl rfl) e, c⟩
  | ins C dx fs =>
    obtain ⟨d, z, ne, e, mA, ⟨od, es, ep, e2, c⟩, r⟩ := x
    exact ⟨ho _ d, z, ne, k _ _ (.inl rfl) e, mA, ⟨od, es, ep, k _ _ (.inr d) e2, c⟩, r⟩
  | own y => obtain ⟨ob, e⟩ := x; exact ⟨ob, k _ _ (.inl rfl) e⟩
  | xd fs => obtain ⟨mA, ⟨od, es, ep, e, c⟩, r⟩ := x; exact ⟨mA, ⟨od, es, ep, k _ _ (.inl rfl) e, c⟩, r⟩
  | rng lo hi => obtain ⟨t, u, v, e⟩ := x; exact ⟨t, u, v, k _ _ (.inl rfl) e⟩
  | frz ob u ih => obtain ⟨e, q⟩ := x; exact ⟨k _ _ (.inl rfl) e, ih q⟩
  | tbl ps =>
    have e : h.get? a = some { cls := .none, data := .fields ps } := x
    show h'.get? a = some { cls := .none, data := .fields ps }
    exact k a _ (.inl rfl) e
  | met f y =>
    have e : h.get? a = some (PySem.W.methodObj (.ref f) (.ref y)) := x
    show h'.get? a = some (PySem.W.methodObj (.ref f) (.ref y))
    exact k a _ (.inl rfl) e
  | ext φ => obtain ⟨p, ⟨o, e⟩, st⟩ := x; exact ⟨st _ _ p fun o q => k _ _ (.inl rfl) q, ⟨o, k _ _ (.inl rfl) e⟩, st⟩
theorem HOk.lt (x : HOk P w H h) (e : H a = some o) : a < h.objs.size := (x a o e).lt
theorem HOk.fresh (x : HOk P w H h) (e : h.objs.size ≤ a) : H a = none := by
  cases q : H a with
  | none => rfl
  | some u => exact absurd (Nat.lt_of_lt_of_le (x.lt q) e) (Nat.lt_irrefl _)
/-- every object of the heap is kept -/
theorem HOk.kept (x : HOk P w H h) (k : ∀ b u, h.get? b = some u → h'.get? b = some u) : HOk P w H h' := fun a o e =>
  (x a o e).stay (fun b u _ q => k b u q) (fun _ q => q) fun _ _ q => q
/-- a new object is laid and tracked -/
theorem HOk.laid (x : HOk P w H h) (k : ∀ b u, h.get? b = some u → h'.get? b = some u) (hp : h.objs.size ≤ a) (new : ObjOk P w (upd H a o) h' a o) : HOk P w (upd H a o) h' := fun b u e => by
  have hn := x.fresh hp
  by_cases hb : b = a
  · subst hb; rw [upd_same] at e; cases e; exact new
  · rw [upd_ne hb] at e
    exact (x b u e).stay (fun c v _ q => k c v q) (fun c q => by rw [upd_ne (ne_of_none q hn)]; exact q) fun c xs q => by rw [upd_ne (ne_of_none q hn)]; exact q
end

/-- what may be read as u: it is u, or a known u -/
def Rd (H : Hp) (a : Addr) (u : HO) : Prop := H a = some u ∨ ∃ o, H a = some (.frz o u)
theorem Rd.of {H : Hp} {a : Addr} {u : HO} (h : H a = some u) : Rd H a u := .inl h
theorem Rd.ok {P : Program} {w : World} {H : Hp} {h : Heap} {a : Addr} {u : HO} (r : Rd H a u) (x : HOk P w H h) : ObjOk P w H h a u := by
  rcases r with r | ⟨o, r⟩
  · exact x a u r
  · obtain ⟨_, q⟩ := x a _ r
    exact q
/-- what may be written -/
def Mut : Option HO → Prop
  | some (.lst _) => True
  | some (.dK _) => True
  | some (.dT _) => True
  | some (.set _ _) => True
  | some (.ins _ _ _) => True
  | some (.ext _) => True
  | _ => False
section
variable {P : Program} {w : World} {H : Hp} {h h' : Heap} {x e : Addr} {o' : HO}
/-- the object at e is changed: x itself, or the dict of the instance x -/
theorem HOk.write (ok : HOk P w H h) (mu : Mut (H x)) (he : e = x ∨ H e = some (.own x)) (k : ∀ b u, b ≠ e → h.get? b = some u → h'.get? b = some u) (heo : ∃ u, h'.get? e = some u)
    (new : ObjOk P w (upd H x o') h' x o') : HOk P w (upd H x o') h' := fun b u q => by
  have nown : ∀ c y, H c = some (.own y) → c ≠ x := fun c y r z => by subst z; rw [r] at mu; exact mu
  have ntup : ∀ c xs, H c = some (.tup xs) → c ≠ x := fun c xs r z => by subst z; rw [r] at mu; exact mu
  by_cases hb : b = x
  · subst hb; rw [upd_same] at q; cases q; exact new
  · rw [upd_ne hb] at q
    by_cases hbe : b = e
    · have q' : H b = some (.own x) := by
        rcases he with z | z
        · exact absurd (hbe.trans z) hb
        · rw [hbe]; exact z
      rw [q] at q'; cases q'
      obtain ⟨v, hv⟩ := heo
      exact ⟨v, by rw [hbe]; exact hv⟩
    · refine (ok b u q).stay (fun c v hc r => k c v ?_ r) (fun c r => by rw [upd_ne (nown c b r)]; exact r) fun c xs r => by rw [upd_ne (ntup c xs r)]; exact r
      rcases hc with rfl | hc
      · exact hbe
      · rintro rfl
        rcases he with z | z
        · exact nown c b hc z
        · rw [hc] at z; cases z; exact hb rfl
end

/-! ### kept unless tracked; of the frames at fs (the callers') the slots may change (an exception that passes writes there); of the records at ex (iterators) nothing is said -/
structure Un (fs ex : List Addr) (H H' : Hp) (h h' : Heap) : Prop where
  keep : ∀ b o, h.get? b = some o → H b = none → b ∉ fs → b ∉ ex → h'.get? b = some o
  slot : ∀ b o, h.get? b = some o → H b = none → b ∈ fs → b ∉ ex → ∃ sl, h'.get? b = some { o with slots := sl }
  free : ∀ b o, h.get? b = some o → H b = none → b ∉ ex → H' b = none
  there : ∀ b o, h.get? b = some o → b ∉ ex → ∃ o', h'.get? b = some o'
  tups : ∀ b xs, H b = some (.tup xs) → H' b = some (.tup xs)
  frzs : ∀ b o u, H b = some (.frz o u) → H' b = some (.frz o u)
  tbls : ∀ b ps, H b = some (.tbl ps) → ∃ more, H' b = some (.tbl (ps ++ more))
section
variable {fs fs' ex ex' : List Addr} {H H1 H2 : Hp} {h h1 h2 h' : Heap} {a x e : Addr} {o : HO}
theorem Un.any (u : Un fs ex H H1 h h1) {b : Addr} {ob : Obj} (q : h.get? b = some ob) (n : H b = none) (hx : b ∉ ex) : ∃ sl, h1.get? b = some { ob with slots := sl } := by
  by_cases hb : b ∈ fs
  · exact u.slot b ob q n hb hx
  · exact ⟨ob.slots, u.keep b ob q n hb hx⟩
theorem Un.trans (a : Un fs ex H H1 h h1) (b : Un fs ex H1 H2 h1 h2) : Un fs ex H H2 h h2 where
  keep := fun c ob q n hc hx => b.keep c ob (a.keep c ob q n hc hx) (a.free c ob q n hx) hc hx
  slot := fun c ob q n hc hx => by
    obtain ⟨sl, e1⟩ := a.slot c ob q n hc hx
    obtain ⟨sl', e2⟩ := b.slot c _ e1 (a.free c ob q n hx) hc hx
    exact ⟨sl', e2⟩
  free := fun c ob q n hx => by
    obtain ⟨o', e1⟩ := a.there c ob q hx
    exact b.free c o' e1 (a.free c ob q n hx) hx
  there := fun c ob q hx => by
    obtain ⟨o', e1⟩ := a.there c ob q hx
    exact b.there c o' e1 hx
  tups := fun c xs q => b.tups c xs (a.tups c xs q)
  frzs := fun c ob xs q => b.frzs c ob xs (a.frzs c ob xs q)
  tbls := fun c ps q => by
    obtain ⟨m1, e1⟩ := a.tbls c ps q
    obtain ⟨m2, e2⟩ := b.tbls c _ e1
    exact ⟨m1 ++ m2, by rw [e2, Array.append_assoc]⟩
theorem Un.kept (k : ∀ b u, h.get? b = some u → h'.get? b = some u) : Un fs ex H H h h' :=
  ⟨fun b ob q _ _ _ => k b ob q, fun b ob q _ _ _ => ⟨ob.slots, k b ob q⟩, fun _ _ _ n _ => n, fun b ob q _ => ⟨ob, k b ob q⟩, fun _ _ q => q, fun _ _ _ q => q, fun _ ps q => ⟨#[], by rw [q]; simp⟩⟩
theorem Un.refl : Un fs ex H H h h := Un.kept fun _ _ q => q
theorem Un.laid (k : ∀ b u, h.get? b = some u → h'.get? b = some u) (hp : h.objs.size ≤ a) (hn : H a = none) : Un fs ex H (upd H a o) h h' where
  keep := fun b u q _ _ _ => k b u q
  slot := fun b u q _ _ _ => ⟨u.slots, k b u q⟩
  free := fun b u q n _ => by rw [upd_ne (Nat.ne_of_lt (Nat.lt_of_lt_of_le (Heap.lt_size q) hp))]; exact n
  there := fun b u q _ => ⟨u, k b u q⟩
  tups := fun b xs q => by rw [upd_ne (ne_of_none q hn)]; exact q
  frzs := fun b u xs q => by rw [upd_ne (ne_of_none q hn)]; exact q
  tbls := fun b ps q => ⟨#[], by rw [upd_ne (ne_of_none q hn), q]; simp⟩
theorem Un.write (mu : Mut (H x)) (he : e = x ∨ H e = some (.own x)) (k : ∀ b u, b ≠ e → h.get? b = some u → h'.get? b = some u) (heo : ∃ u, h'.get? e = some u) : Un fs ex H (upd H x o) h h' := by
  have hx : ∀ b, H b = none → b ≠ x := fun b n z => by subst z; rw [n] at mu; exact mu
  have hb : ∀ b, H b = none → b ≠ e := fun b n z => by
    subst z
    rcases he with r | r
    · exact hx b n r
    · rw [n] at r; cases r
  have hm : ∀ b u, H b = some u → ¬ Mut (some u) → b ≠ x := fun b u q nm z => by subst z; rw [q] at mu; exact nm mu
  refine ⟨fun b u q n _ _ => k b u (hb b n) q, fun b u q n _ _ => ⟨u.slots, k b u (hb b n) q⟩, fun b u q n _ => by rw [upd_ne (hx b n)]; exact n, fun b u q _ => ?_,
    fun b xs q => by rw [upd_ne (hm b _ q fun z => z)]; exact q, fun b u xs q => by rw [upd_ne (hm b _ q fun z => z)]; exact q, fun b ps q => ⟨#[], by rw [upd_ne (hm b _ q fun z => z), q]; simp⟩⟩
  by_cases hbe : b = e
  · subst hbe; exact heo
  · exact ⟨u, k b u hbe q⟩
theorem Un.mono (u : Un fs ex H H1 h h1) (hs : ∀ b ∈ fs, b ∈ fs') (hx : ∀ b ∈ ex, b ∈ ex') : Un fs' ex' H H1 h h1 :=
  ⟨fun b ob q n hb he => u.keep b ob q n (fun z => hb (hs b z)) fun z => he (hx b z), fun _ _ q n _ he => u.any q n fun z => he (hx _ z), fun b ob q n he => u.free b ob q n fun z => he (hx b z), fun b ob q he => u.there b ob q fun z => he (hx b z), u.tups, u.frzs, u.tbls⟩
end

/-! ### the heap without what is tracked -/
def trk (h : Heap) (H : Hp) : List Addr := (List.range h.objs.size).filter fun a => (H a).isSome
def hidT (h : Heap) (H : Hp) : Heap := PySem.W.hideAll h (trk h H)
theorem hidT_size (h : Heap) (H : Hp) : (hidT h H).objs.size = h.objs.size := PySem.W.hideAll_size _ _
theorem hidT_get {h : Heap} {H : Hp} {b : Addr} {o : Obj} (e : h.get? b = some o) (n : H b = none) : (hidT h H).get? b = some o :=
  PySem.W.hideAll_get _ e fun hm => by
    have q : (H b).isSome = true := (List.mem_filter.mp hm).2
    rw [n] at q; simp at q
theorem of_hidT {h : Heap} {H : Hp} {b : Addr} {o : Obj} (e : (hidT h H).get? b = some o) : h.get? b = some o ∧ H b = none := by
  have e' : h.get? b = some o := PySem.W.of_hideAll (trk h H) e
  refine ⟨e', ?_⟩
  cases q : H b with
  | none => rfl
  | some x =>
    have hm : b ∈ trk h H := List.mem_filter.mpr ⟨List.mem_range.mpr (Heap.lt_size e'), by simp [q]⟩
    have z : (hidT h H).get? b = none := PySem.W.hideAll_none (trk h H) hm
    rw [z] at e; cases e

/-! ### OpenK's ledger, filled with every new object but one -/
def allNews (g h : Heap) (L : Addr) : List (Addr × Obj) := (List.range h.objs.size).filterMap fun a => if a = L ∨ (g.get? a).isSome = true then none else (h.get? a).map fun o => (a, o)
def rest (g h : Heap) (L d : Addr) : List (Addr × Obj) := (allNews g h L).filter fun p => decide (p.1 ≠ d)
end L2

namespace L2
open PySem PySem.Spec PyProof.Rows

/-- the module's facts, over the base: the heap at the law's entry without what is tracked there -/
structure Mod (K : PySem.W.Frag) (mg : Str → Option Value) (base : Heap) : Prop where
  kin : K.In base
  glob : base.Ns mainGlobals mg
  blt : ∃ mb, base.Ns builtinsNs mb ∧ ∀ x : Str, x ≠ "__name__" → mb x = bootBuiltins x
  nolimit : base.NoLimit

/-- the context: a def's body (or a comprehension's block) running. base: fixed through the whole law; s₀, H₀: the entry; outer: the frames whose slots others may change (a def's callers); stack: all frames that run;
   ex: iterators that were made ahead of the entry and are walked here (a comprehension's); fn: the names whose cells were made at the entry (a def: all; a comprehension's block: its own); calm: not within an except suite; pn: pins that every state bears; xe: what is wanted of an exception that leaves the code -/
structure Cx where
  prog : Program
  w : World
  K : PySem.W.Frag
  mg : Str → Option Value
  base : Heap
  A : Around
  N : List Str
  s₀ : Shared
  H₀ : Hp
  env : Env
  outer : List Env
  stack : List Env
  ex : List Addr
  fn : Str → Bool
  calm : Bool
  pn : List (Addr × Obj)
  xe : Value → Shared → Prop
/-- the callers' frames -/
def frs (l : List Env) : List Addr := l.filterMap (·.frame)
abbrev Cx.fs (X : Cx) : List Addr := frs X.outer

def Vis (sc : Scope) (x : Str) : Prop := sc.names.lookup x = some .local ∨ sc.names.lookup x = some .cell ∨ sc.names.lookup x = some .free
def Loc (sc : Scope) (x : Str) : Prop := sc.names.lookup x = some .local ∨ sc.names.lookup x = some .cell
def Look (env : Env) (h : Heap) (m : Str → Option Value) (x : Str) (u : Value) : Prop :=
  (env.kindOf x = some .local ∧ m x = some u) ∨ ((env.kindOf x = some .cell ∨ env.kindOf x = some .free) ∧ ∃ c, env.cells.lookup x = some c ∧ h.IsCell c (some u))

structure Cx.Ok (X : Cx) : Prop where
  mod : Mod X.K X.mg X.base
  kind : X.env.scope.kind = .function
  glob : X.env.globals = mainGlobals
  blt : X.env.builtins = builtinsNs
  above : X.s₀.heap.objs.size ≤ X.env.locals
  inj : ∀ x y c, X.env.cells.lookup x = some c → X.env.cells.lookup y = some c → x = y
  has : ∀ x, (X.env.kindOf x = some .cell ∨ X.env.kindOf x = some .free) → ∃ c, X.env.cells.lookup x = some c
  cab : ∀ x c, X.fn x = true → X.env.cells.lookup x = some c → X.s₀.heap.objs.size ≤ c
  hd : X.calm = true → X.A.handled = none
  frames : X.A.frames = some X.stack
  stk : X.stack = X.outer ∨ (X.stack = X.env :: X.outer ∧ X.env.frame = some X.env.locals)
  exf : ∀ b ∈ X.ex, b ≠ X.env.locals ∧ ∀ x c, X.env.cells.lookup x = some c → c ≠ b
  bs : ∀ b o, X.base.get? b = some o → X.s₀.heap.get? b = some o ∧ X.H₀ b = none
  bsz : X.base.objs.size ≤ X.s₀.heap.objs.size
  noex : ∀ b o, X.base.get? b = some o → b ∉ X.ex
  exfs : ∀ b ∈ X.ex, b ∉ X.fs
  funs : X.s₀.heap.FunFrames X.base X.outer
  frf : ∀ b ∈ X.fs, X.H₀ b = none

structure Inv (X : Cx) (pins : List (Addr × Obj)) (σ : List (Option V)) (H : Hp) (s : Shared) : Prop where
  ok : X.Ok
  os : s.os = X.s₀.os
  bare : AllBare s.gens
  base : Un X.fs X.ex X.H₀ H X.s₀.heap s.heap
  loc : ∃ m, s.heap.Ns X.env.locals m ∧ ∀ (i : Nat) (x : Str) (v : V), X.N[i]? = some x → σ[i]? = some (some v) → Vis X.env.scope x → ∃ u, RelV v u ∧ Look X.env s.heap m x u
  cell : ∀ x c, X.env.cells.lookup x = some c → ∃ v, s.heap.IsCell c v
  free : H X.env.locals = none
  freeC : ∀ x c, X.env.cells.lookup x = some c → H c = none
  pin : ∀ p ∈ X.pn ++ pins, s.heap.get? p.1 = some p.2 ∧ H p.1 = none ∧ p.1 ≠ X.env.locals ∧ p.1 ∉ X.fs ∧ ∀ v, p.2.data ≠ .cell v
  hok : HOk X.prog X.w H s.heap
  len : σ.length = X.N.length

section
variable {X : Cx} {pins : List (Addr × Obj)} {σ : List (Option V)} {H H' : Hp} {s : Shared} {h' : Heap}

theorem Cx.Ok.nofr (ok : X.Ok) {b : Addr} {o : Obj} (e : X.base.get? b = some o) : b ∉ X.fs := fun hb => by
  have := (ok.funs.mem hb).1
  rw [e] at this; cases this
theorem Inv.bs (I : Inv X pins σ H s) : ∀ b o, X.base.get? b = some o → s.heap.get? b = some o ∧ H b = none := fun b o e =>
  ⟨I.base.keep b o (I.ok.bs b o e).1 (I.ok.bs b o e).2 (I.ok.nofr e) (I.ok.noex b o e), I.base.free b o (I.ok.bs b o e).1 (I.ok.bs b o e).2 (I.ok.noex b o e)⟩
theorem Inv.bk (I : Inv X pins σ H s) : ∀ b o, X.base.get? b = some o → s.heap.get? b = some o := fun b o e => (I.bs b o e).1
theorem Inv.mod (I : Inv X pins σ H s) : Mod X.K X.mg X.base := I.ok.mod
theorem Inv.kIn (I : Inv X pins σ H s) : X.K.In s.heap := I.ok.mod.kin.keeps I.bk
theorem Inv.nolimit (I : Inv X pins σ H s) : s.heap.NoLimit := I.ok.mod.nolimit.keeps I.bk
/-- the frame over the base: for OpenK's rules (K.In X.base is I.mod.kin) -/
theorem Inv.fr (I : Inv X pins σ H s) : ∃ m, Fr X.base X.env.locals s.heap m :=
  let ⟨m, hn, _⟩ := I.loc
  ⟨m, hn, I.bk, Nat.le_trans I.ok.bsz I.ok.above⟩
theorem Inv.lt (I : Inv X pins σ H s) : X.env.locals < s.heap.objs.size := let ⟨_, hn, _⟩ := I.loc; hn.lt
theorem Inv.sz (I : Inv X pins σ H s) : X.s₀.heap.objs.size ≤ s.heap.objs.size := Nat.le_trans I.ok.above (Nat.le_of_lt I.lt)
theorem Inv.nofs (I : Inv X pins σ H s) {a : Addr} (h : s.heap.objs.size ≤ a) : a ∉ X.fs := fun hb => by
  obtain ⟨_, o, ho, _⟩ := I.ok.funs.mem hb
  exact absurd (Nat.lt_of_lt_of_le (Heap.lt_size ho) (Nat.le_trans I.sz h)) (Nat.lt_irrefl _)
theorem Inv.cne (I : Inv X pins σ H s) : ∀ x c, X.env.cells.lookup x = some c → c ≠ X.env.locals := fun x c e z => by
  obtain ⟨v, o, ho, hd⟩ := I.cell x c e
  obtain ⟨m, ⟨o', es, ep, ho', hd', _⟩, _⟩ := I.loc
  rw [z, ho'] at ho; cases ho; rw [hd'] at hd; cases hd
theorem Inv.funs (I : Inv X pins σ H s) : s.heap.FunFrames X.base X.outer := by
  have all : ∀ (l : List Env), (∀ b ∈ frs l, b ∈ X.fs) → X.s₀.heap.FunFrames X.base l → s.heap.FunFrames X.base l := by
    intro l
    induction l with
    | nil => intro _ _; trivial
    | cons env r ih =>
      intro hs hl
      obtain ⟨hk, ⟨L, o, hf, hn, ho, hd⟩, hr⟩ := hl
      have hL : L ∈ X.fs := hs L (by unfold frs; rw [List.filterMap_cons, hf]; exact List.mem_cons_self)
      obtain ⟨sl, e⟩ := I.base.slot L o ho (I.ok.frf L hL) hL fun z => I.ok.exfs L z hL
      exact ⟨hk, ⟨L, _, hf, hn, e, hd⟩, ih (fun b hb => hs b (by unfold frs; rw [List.filterMap_cons, hf]; exact List.mem_cons_of_mem _ hb)) hr⟩
  exact all X.outer (fun _ hb => hb) I.ok.funs

/-- the frames that run, for a call -/
theorem Inv.stack (I : Inv X pins σ H s) : s.heap.FunFrames X.base X.stack := by
  rcases I.ok.stk with e | ⟨e, hf⟩
  · rw [e]; exact I.funs
  · rw [e]
    obtain ⟨m, hn, _⟩ := I.loc
    refine .cons (by rw [I.ok.kind]; decide) hf hn ?_ I.funs
    exact Heap.get?_none_of_le (Nat.le_trans I.ok.bsz I.ok.above)
theorem Inv.stkSub (I : Inv X pins σ H s) : ∀ b ∈ frs X.stack, b ∈ X.env.locals :: X.fs := fun b hb => by
  rcases I.ok.stk with e | ⟨e, hf⟩
  · rw [e] at hb; exact List.mem_cons_of_mem _ hb
  · rw [e] at hb
    unfold frs at hb
    rw [List.filterMap_cons, hf] at hb
    exact hb
theorem Inv.stkFree (I : Inv X pins σ H s) : ∀ b ∈ frs X.stack, H b = none := fun b hb => by
  rcases List.mem_cons.mp (I.stkSub b hb) with e | hb
  · rw [e]; exact I.free
  · obtain ⟨_, o, ho, _⟩ := I.ok.funs.mem hb
    exact I.base.free b o ho (I.ok.frf b hb) fun z => I.ok.exfs b z hb

/-- THE STEP: the untracked objects but the frame and the records at ch are kept (the callers' frames up to slots), the frame's map is kept, the new abstract heap is held -/
theorem Inv.step {g' : Array GenState} {t' : Nat} {d' : Drawn} {ch : List Addr} (I : Inv X pins σ H s)
    (hch : ∀ b ∈ ch, (b ∈ X.ex ∨ X.s₀.heap.objs.size ≤ b) ∧ b ≠ X.env.locals ∧ (∀ x c, X.env.cells.lookup x = some c → c ≠ b) ∧ ∀ p ∈ X.pn ++ pins, p.1 ≠ b)
    (keep : ∀ b o, b ≠ X.env.locals → b ∉ X.fs → b ∉ ch → s.heap.get? b = some o → H b = none → h'.get? b = some o)
    (slot : ∀ b o, b ≠ X.env.locals → b ∈ X.fs → b ∉ ch → s.heap.get? b = some o → H b = none → ∃ sl, h'.get? b = some { o with slots := sl }) (free : ∀ b o, b ∉ ch → s.heap.get? b = some o → H b = none → H' b = none)
    (there : ∀ b o, b ∉ ch → s.heap.get? b = some o → ∃ o', h'.get? b = some o')
    (tups : ∀ b xs, H b = some (.tup xs) → H' b = some (.tup xs)) (frzs : ∀ b o u, H b = some (.frz o u) → H' b = some (.frz o u)) (tbls : ∀ b ps, H b = some (.tbl ps) → ∃ more, H' b = some (.tbl (ps ++ more)))
    (ns : ∀ m, s.heap.Ns X.env.locals m → h'.Ns X.env.locals m) (hok : HOk X.prog X.w H' h') (hg : AllBare g') :
    Inv X pins σ H' { s with heap := h', gens := g', drawn := d', toks := t' } := by
  have neL : ∀ b o, X.s₀.heap.get? b = some o → b ≠ X.env.locals := fun b o e => Nat.ne_of_lt (Nat.lt_of_lt_of_le (Heap.lt_size e) I.ok.above)
  have neC : ∀ b o, X.s₀.heap.get? b = some o → b ∉ X.ex → b ∉ ch := fun b o e hx hb => by
    rcases (hch b hb).1 with z | z
    · exact hx z
    · exact absurd (Nat.lt_of_lt_of_le (Heap.lt_size e) z) (Nat.lt_irrefl _)
  have cellK : ∀ x c, X.env.cells.lookup x = some c → ∀ v, s.heap.IsCell c v → h'.IsCell c v := fun x c e v ⟨o, ho, hd⟩ => by
    have nch : c ∉ ch := fun z => (hch c z).2.2.1 x c e rfl
    by_cases hc : c ∈ X.fs
    · obtain ⟨sl, q⟩ := slot c o (I.cne x c e) hc nch ho (I.freeC x c e)
      exact ⟨_, q, hd⟩
    · exact ⟨o, keep c o (I.cne x c e) hc nch ho (I.freeC x c e), hd⟩
  refine ⟨I.ok, I.os, hg, ⟨fun b o e n hb hx => ?_, fun b o e n hb hx => ?_, fun b o e n hx => ?_, fun b o e hx => ?_, fun b xs e => tups b xs (I.base.tups b xs e), fun b o xs e => frzs b o xs (I.base.frzs b o xs e), fun b ps e => ?_⟩, ?_, fun x c e => ?_, ?_, fun x c e => ?_, fun p hp => ?_, hok, I.len⟩
  · exact keep b o (neL b o e) hb (neC b o e hx) (I.base.keep b o e n hb hx) (I.base.free b o e n hx)
  · obtain ⟨sl, e1⟩ := I.base.slot b o e n hb hx
    obtain ⟨sl', e2⟩ := slot b _ (neL b o e) hb (neC b o e hx) e1 (I.base.free b o e n hx)
    exact ⟨sl', e2⟩
  · obtain ⟨o', e1⟩ := I.base.there b o e hx
    exact free b o' (neC b o e hx) e1 (I.base.free b o e n hx)
  · obtain ⟨o', e1⟩ := I.base.there b o e hx
    exact there b o' (neC b o e hx) e1
  · obtain ⟨m1, e1⟩ := I.base.tbls b ps e
    obtain ⟨m2, e2⟩ := tbls b _ e1
    exact ⟨m1 ++ m2, by rw [e2, Array.append_assoc]⟩
  · obtain ⟨m, hn, hl⟩ := I.loc
    refine ⟨m, ns m hn, fun i x v e1 e2 e3 => ?_⟩
    obtain ⟨u, r, l⟩ := hl i x v e1 e2 e3
    refine ⟨u, r, ?_⟩
    rcases l with l | ⟨k, c, e, z⟩
    · exact .inl l
    · exact .inr ⟨k, c, e, cellK x c e _ z⟩
  · obtain ⟨v, z⟩ := I.cell x c e
    exact ⟨v, cellK x c e v z⟩
  · obtain ⟨m, ⟨o, _, _, ho, _⟩, _⟩ := I.loc
    exact free _ o (fun z => (hch _ z).2.1 rfl) ho I.free
  · obtain ⟨v, o, ho, hd⟩ := I.cell x c e
    exact free c o (fun z => (hch c z).2.2.1 x c e rfl) ho (I.freeC x c e)
  · obtain ⟨e, n, ne, nf, d⟩ := I.pin p hp
    have nch : p.1 ∉ ch := fun z => (hch p.1 z).2.2.2 p hp rfl
    exact ⟨keep p.1 p.2 ne nf nch e n, free p.1 p.2 nch e n, ne, nf, d⟩
/-- .. where the frame's own object is kept too -/
theorem Inv.un {t' : Nat} (I : Inv X pins σ H s) (u : Un X.fs [] H H' s.heap h') (hok : HOk X.prog X.w H' h') : Inv X pins σ H' { s with heap := h', toks := t' } := by
  obtain ⟨m, ⟨o, es, ep, ho, r⟩, _⟩ := id I.loc
  obtain ⟨sl, hL⟩ := u.any ho I.free (by simp)
  exact I.step (g' := s.gens) (d' := s.drawn) (ch := []) (fun _ z => nomatch z) (fun b o _ hb _ e n => u.keep b o e n hb (by simp)) (fun b o _ hb _ e n => u.slot b o e n hb (by simp)) (fun b o _ e n => u.free b o e n (by simp)) (fun b o _ e => u.there b o e (by simp)) u.tups u.frzs u.tbls (fun m' hm => by
    obtain ⟨o', es', ep', ho', r'⟩ := hm
    rw [ho] at ho'; cases ho'
    exact ⟨_, es', ep', hL, r'⟩) hok I.bare
/-- behind a call (or a comprehension's block): the slots of this frame may have changed too, the records at ch may have turned -/
theorem Inv.call {g' : Array GenState} {t' : Nat} {d' : Drawn} {ch : List Addr} (I : Inv X pins σ H s) (u : Un (frs X.stack) ch H H' s.heap h') (hok : HOk X.prog X.w H' h') (hg : AllBare g')
    (hch : ∀ b ∈ ch, (b ∈ X.ex ∨ X.s₀.heap.objs.size ≤ b) ∧ b ≠ X.env.locals ∧ (∀ x c, X.env.cells.lookup x = some c → c ≠ b) ∧ ∀ p ∈ X.pn ++ pins, p.1 ≠ b) :
    Inv X pins σ H' { s with heap := h', gens := g', drawn := d', toks := t' } := by
  obtain ⟨m, ⟨o, es, ep, ho, r⟩, _⟩ := id I.loc
  obtain ⟨sl, hL⟩ := u.any ho I.free fun z => (hch _ z).2.1 rfl
  exact I.step (ch := ch) hch (fun b o hL hb hc e n => u.keep b o e n (fun z => (List.mem_cons.mp (I.stkSub b z)).elim hL hb) hc) (fun b o _ _ hc e n => u.any e n hc) (fun b o hc e n => u.free b o e n hc) (fun b o hc e => u.there b o e hc) u.tups u.frzs u.tbls (fun m' hm => by
    obtain ⟨o', es', ep', ho', r'⟩ := hm
    rw [ho] at ho'; cases ho'
    exact ⟨_, es', ep', hL, r'⟩) hok hg
/-- an untracked record of ours (an iterator) has turned -/
theorem Inv.turned {t' : Nat} {it : Addr} (I : Inv X pins σ H s) (k : ∀ b o, b ≠ it → s.heap.get? b = some o → h'.get? b = some o) (hn : H it = none) (hL : it ≠ X.env.locals)
    (h1 : it ∈ X.ex ∨ X.s₀.heap.objs.size ≤ it) (h2 : ∀ x c, X.env.cells.lookup x = some c → c ≠ it) (h3 : ∀ p ∈ X.pn ++ pins, p.1 ≠ it) : Inv X pins σ H { s with heap := h', toks := t' } := by
  have nit : ∀ b u, H b = some u → b ≠ it := fun b u e z => by rw [z, hn] at e; cases e
  refine I.step (g' := s.gens) (d' := s.drawn) (ch := [it]) (fun b hb => ?_) (fun b o _ _ hc e _ => k b o (fun z => hc (by simp [z])) e) (fun b o _ _ hc e _ => ⟨o.slots, k b o (fun z => hc (by simp [z])) e⟩) (fun _ _ _ _ n => n)
    (fun b o hc e => ⟨o, k b o (fun z => hc (by simp [z])) e⟩) (fun _ _ e => e) (fun _ _ _ e => e) (fun b ps e => ⟨#[], by rw [e]; simp⟩) (fun m hm => ?_) (fun b u e => ?_) I.bare
  · have e : b = it := by simpa using hb
    subst e
    exact ⟨h1, hL, h2, h3⟩
  · obtain ⟨o, es, ep, ho, r⟩ := hm
    exact ⟨o, es, ep, k _ o (Ne.symm hL) ho, r⟩
  · refine (I.hok b u e).stay (fun c v hc q => k c v ?_ q) (fun _ q => q) fun _ _ q => q
    rcases hc with z | z
    · rw [z]; exact nit b u e
    · exact nit c _ z
theorem Inv.tok (I : Inv X pins σ H s) (t : Nat) : Inv X pins σ H { s with toks := t } := I.un (h' := s.heap) (t' := t) Un.refl I.hok
/-- all objects kept -/
theorem Inv.kept {t' : Nat} (I : Inv X pins σ H s) (k : ∀ b u, s.heap.get? b = some u → h'.get? b = some u) : Inv X pins σ H { s with heap := h', toks := t' } := I.un (Un.kept k) (I.hok.kept k)
/-- a new object laid and tracked -/
theorem Inv.laid {a : Addr} {o : HO} {t' : Nat} (I : Inv X pins σ H s) (k : ∀ b u, s.heap.get? b = some u → h'.get? b = some u) (hp : s.heap.objs.size ≤ a) (new : ObjOk X.prog X.w (upd H a o) h' a o) :
    Inv X pins σ (upd H a o) { s with heap := h', toks := t' } := I.un (Un.laid k hp (I.hok.fresh hp)) (I.hok.laid k hp new)
/-- an object written -/
theorem Inv.write {x e : Addr} {o : HO} {t' : Nat} (I : Inv X pins σ H s) (mu : Mut (H x)) (he : e = x ∨ H e = some (.own x)) (k : ∀ b u, b ≠ e → s.heap.get? b = some u → h'.get? b = some u) (heo : ∃ u, h'.get? e = some u)
    (new : ObjOk X.prog X.w (upd H x o) h' x o) : Inv X pins σ (upd H x o) { s with heap := h', toks := t' } := I.un (Un.write mu he k heo) (I.hok.write mu he k heo new)
/-- forgetting slots, pins -/
theorem Inv.weak {σ' : List (Option V)} (I : Inv X pins σ H s) (hl : σ'.length = σ.length) (w : ∀ (i : Nat) v, σ'[i]? = some (some v) → σ[i]? = some (some v)) : Inv X pins σ' H s :=
  ⟨I.ok, I.os, I.bare, I.base, let ⟨m, hn, hl'⟩ := I.loc; ⟨m, hn, fun i x v e1 e2 e3 => hl' i x v e1 (w i v e2) e3⟩, I.cell, I.free, I.freeC, I.pin, I.hok, hl.trans I.len⟩
theorem Inv.pins_of {pins' : List (Addr × Obj)} (I : Inv X pins σ H s) (h : ∀ p ∈ pins', s.heap.get? p.1 = some p.2 ∧ H p.1 = none ∧ p.1 ≠ X.env.locals ∧ p.1 ∉ X.fs ∧ ∀ v, p.2.data ≠ .cell v) : Inv X pins' σ H s :=
  ⟨I.ok, I.os, I.bare, I.base, I.loc, I.cell, I.free, I.freeC, fun p hp => (List.mem_append.mp hp).elim (fun z => I.pin p (List.mem_append_left _ z)) (h p), I.hok, I.len⟩

theorem nodup_ix {N : List Str} (hN : N.Nodup) {i j : Nat} {x : Str} (a : N[i]? = some x) (b : N[j]? = some x) : i = j := by
  obtain ⟨h1, e1⟩ := List.getElem?_eq_some_iff.mp a
  obtain ⟨h2, e2⟩ := List.getElem?_eq_some_iff.mp b
  exact (List.getElem_inj hN).mp (e1.trans e2.symm)

/-- a name is stored; what changed -/
theorem store_ok2 {M : Model} {A : Around} {E : Value → Shared → Prop} {i : Nat} {x : Str} {v : V} {u : Value} {Q : Unit → Shared → Prop} (I : Inv X pins σ H s) (hN : X.N.Nodup) (hi : X.N[i]? = some x) (hx : Loc X.env.scope x) (r : RelV v u)
    (h : ∀ s', Inv X pins (σ.set i (some v)) H s' → (∃ a, Heap.SameBut a s.heap s'.heap ∧ (a = X.env.locals ∨ X.env.cells.lookup x = some a)) → Q () s') (hf : X.fn x = true ∨ X.env.scope.names.lookup x = some .local := by first | exact .inl rfl | exact .inr rfl | assumption) : wpAny M A (storeName X.env x u) Q E s := by
  obtain ⟨m, hn, hl⟩ := id I.loc
  have hcls : (X.env.scope.kind == .class || (X.env.scope.kind == .module && X.env.locals != X.env.globals)) = false := by rw [I.ok.kind]; rfl
  have hiσ : i < σ.length := by rw [I.len]; exact (List.getElem?_eq_some_iff.mp hi).1
  have cne := I.cne
  have tracked : ∀ {a : Addr} {h' : Heap}, (∃ o, s.heap.get? a = some o ∧ H a = none) → Heap.SameBut a s.heap h' → HOk X.prog X.w H h' := fun {a h'} ha hs b ob e => by
    obtain ⟨_, _, hfree⟩ := ha
    refine (I.hok b ob e).stay (fun c w' hc q => (hs.2 c ?_).trans q) (fun _ q => q) fun _ _ q => q
    rintro rfl
    rcases hc with rfl | hc
    · rw [hfree] at e; cases e
    · rw [hfree] at hc; cases hc
  rcases hx with hk | hk
  · refine wpAny_storeName_local hk hn (fun h' hn' hs => ?_) hcls
    obtain ⟨oL, _, _, hoL, _⟩ := id hn
    refine h _ ⟨I.ok, I.os, I.bare, ⟨fun b o e n hb hx => ?_, fun b o e n hb hx => ?_, I.base.free, fun b o e hx => ?_, I.base.tups, I.base.frzs, I.base.tbls⟩, ⟨_, hn', fun j y v' e1 e2 e3 => ?_⟩, fun y c e => ?_, I.free, I.freeC, fun p hp => ?_, tracked ⟨oL, hoL, I.free⟩ hs, by simpa using I.len⟩ ⟨_, hs, .inl rfl⟩
    · exact (hs.2 b (Nat.ne_of_lt (Nat.lt_of_lt_of_le (Heap.lt_size e) I.ok.above))).trans (I.base.keep b o e n hb hx)
    · obtain ⟨sl, e1⟩ := I.base.slot b o e n hb hx
      exact ⟨sl, (hs.2 b (Nat.ne_of_lt (Nat.lt_of_lt_of_le (Heap.lt_size e) I.ok.above))).trans e1⟩
    · obtain ⟨o', e1⟩ := I.base.there b o e hx
      exact ⟨o', (hs.2 b (Nat.ne_of_lt (Nat.lt_of_lt_of_le (Heap.lt_size e) I.ok.above))).trans e1⟩
    · by_cases hj : j = i
      · subst hj
        rw [hi] at e1; cases e1
        rw [List.getElem?_set_self hiσ] at e2
        cases e2
        exact ⟨u, r, .inl ⟨hk, by simp⟩⟩
      · rw [List.getElem?_set_ne (Ne.symm hj)] at e2
        obtain ⟨u', r', q⟩ := hl j y v' e1 e2 e3
        refine ⟨u', r', ?_⟩
        rcases q with ⟨k, e⟩ | ⟨k, c, e, z⟩
        · refine .inl ⟨k, ?_⟩
          have : y ≠ x := fun e => hj (nodup_ix hN e1 (e ▸ hi))
          simp [this, e]
        · exact .inr ⟨k, c, e, z.sameBut hs (cne y c e)⟩
    · obtain ⟨w', z⟩ := I.cell y c e
      exact ⟨w', z.sameBut hs (cne y c e)⟩
    · obtain ⟨e, n, ne, nf, d⟩ := I.pin p hp
      exact ⟨(hs.2 p.1 ne).trans e, n, ne, nf, d⟩
  · have hfn : X.fn x = true := by
      rcases hf with z | z
      · exact z
      · rw [z] at hk; cases hk
    obtain ⟨c, hc⟩ := I.ok.has x (.inl hk)
    obtain ⟨w', z⟩ := I.cell x c hc
    refine wpAny_storeName_cell I.ok.kind hk hc z (fun h' hc' hs => ?_)
    obtain ⟨oc, hoc, hocd⟩ := id z
    refine h { s with heap := h' } ⟨I.ok, I.os, I.bare, ⟨fun b o e n hb hx => ?_, fun b o e n hb hx => ?_, I.base.free, fun b o e hx => ?_, I.base.tups, I.base.frzs, I.base.tbls⟩, ⟨m, hn.sameBut hs (Ne.symm (cne x c hc)), fun j y v' e1 e2 e3 => ?_⟩, fun y c' e => ?_, I.free, I.freeC, fun p hp => ?_, tracked ⟨oc, hoc, I.freeC x c hc⟩ hs, by simpa using I.len⟩ ⟨c, hs, .inr hc⟩
    · exact (hs.2 b (Nat.ne_of_lt (Nat.lt_of_lt_of_le (Heap.lt_size e) (I.ok.cab x c hfn hc)))).trans (I.base.keep b o e n hb hx)
    · obtain ⟨sl, e1⟩ := I.base.slot b o e n hb hx
      exact ⟨sl, (hs.2 b (Nat.ne_of_lt (Nat.lt_of_lt_of_le (Heap.lt_size e) (I.ok.cab x c hfn hc)))).trans e1⟩
    · obtain ⟨o', e1⟩ := I.base.there b o e hx
      exact ⟨o', (hs.2 b (Nat.ne_of_lt (Nat.lt_of_lt_of_le (Heap.lt_size e) (I.ok.cab x c hfn hc)))).trans e1⟩
    · by_cases hj : j = i
      · subst hj
        rw [hi] at e1; cases e1
        rw [List.getElem?_set_self hiσ] at e2
        cases e2
        exact ⟨u, r, .inr ⟨.inl hk, c, hc, hc'⟩⟩
      · rw [List.getElem?_set_ne (Ne.symm hj)] at e2
        obtain ⟨u', r', q⟩ := hl j y v' e1 e2 e3
        refine ⟨u', r', ?_⟩
        rcases q with q | ⟨k, c', e, z'⟩
        · exact .inl q
        · refine .inr ⟨k, c', e, z'.sameBut hs ?_⟩
          rintro rfl
          exact hj (nodup_ix hN e1 (I.ok.inj _ _ _ e hc ▸ hi))
    · by_cases hcc : c' = c
      · subst hcc; exact ⟨_, hc'⟩
      · obtain ⟨w2, z2⟩ := I.cell y c' e
        exact ⟨w2, z2.sameBut hs hcc⟩
    · obtain ⟨e, n, ne, nf, d⟩ := I.pin p hp
      refine ⟨(hs.2 p.1 ?_).trans e, n, ne, nf, d⟩
      intro q
      rw [q, hoc] at e
      have q' : oc = p.2 := Option.some.inj e
      exact d w' (by rw [← q']; exact hocd)
theorem store_ok {M : Model} {A : Around} {E : Value → Shared → Prop} {i : Nat} {x : Str} {v : V} {u : Value} {Q : Unit → Shared → Prop} (I : Inv X pins σ H s) (hN : X.N.Nodup) (hi : X.N[i]? = some x) (hx : Loc X.env.scope x) (r : RelV v u)
    (h : ∀ s', Inv X pins (σ.set i (some v)) H s' → Q () s') (hf : X.fn x = true ∨ X.env.scope.names.lookup x = some .local := by first | exact .inl rfl | exact .inr rfl | assumption) : wpAny M A (storeName X.env x u) Q E s :=
  store_ok2 I hN hi hx r (fun s' I' _ => h s' I') hf
/-- behind a call or a block, the state as it is -/
theorem Inv.call' {s' : Shared} {ch : List Addr} (I : Inv X pins σ H s) (ho : s'.os = s.os) (u : Un (frs X.stack) ch H H' s.heap s'.heap) (hok : HOk X.prog X.w H' s'.heap) (hg : AllBare s'.gens)
    (hch : ∀ b ∈ ch, (b ∈ X.ex ∨ X.s₀.heap.objs.size ≤ b) ∧ b ≠ X.env.locals ∧ (∀ x c, X.env.cells.lookup x = some c → c ≠ b) ∧ ∀ p ∈ X.pn ++ pins, p.1 ≠ b) : Inv X pins σ H' s' := by
  obtain ⟨h', g', d', t', o'⟩ := s'
  have e : o' = s.os := ho
  subst e
  exact I.call (g' := g') (t' := t') (d' := d') u hok hg hch
end

/-! ### the judgements -/
/-- an exception: its class, its own dict's address (where it has one), the abstract heap behind it -/
abbrev XK := Value → Option Addr → Hp → Prop
abbrev St := List (Option V)
abbrev VK := V → Hp → Prop
/-- an expression's reading; a test's; an argument list's -/
abbrev TE := St → Hp → VK → Prop
abbrev TT := St → Hp → (Bool → Hp → Prop) → Prop
abbrev TA := St → Hp → (List V → Hp → Prop) → Prop
/-- what is wanted behind a statement -/
structure Ends where
  nx : St → Hp → Prop
  rt : VK
  bk : St → Hp → Prop := fun _ _ => False
  ct : St → Hp → Prop := fun _ _ => False
abbrev TS := Ends → St → Hp → Prop

def EP (X : Cx) (pins : List (Addr × Obj)) (σ : St) (Q : VK) (u : Value) (s' : Shared) : Prop := ∃ v H', Inv X pins σ H' s' ∧ RelV v u ∧ Q v H'
def TP (X : Cx) (pins : List (Addr × Obj)) (σ : St) (Q : Bool → Hp → Prop) (b : Bool) (s' : Shared) : Prop := ∃ H', Inv X pins σ H' s' ∧ Q b H'
def AP (X : Cx) (pins : List (Addr × Obj)) (σ : St) (Q : List V → Hp → Prop) (us : List Value) (s' : Shared) : Prop := ∃ vs H', Inv X pins σ H' s' ∧ Vals vs us ∧ Q vs H'
def SP (X : Cx) (pins : List (Addr × Obj)) (D : Ends) (f : Flow) (s' : Shared) : Prop :=
  match f with
  | .next => ∃ σ' H', Inv X pins σ' H' s' ∧ D.nx σ' H'
  | .brk => ∃ σ' H', Inv X pins σ' H' s' ∧ D.bk σ' H'
  | .cont => ∃ σ' H', Inv X pins σ' H' s' ∧ D.ct σ' H'
  | .ret u => ∃ v σ' H', Inv X pins σ' H' s' ∧ RelV v u ∧ D.rt v H'

def PE (X : Cx) (e : Expr) (t : TE) : Prop :=
  ∀ (pins : List (Addr × Obj)) (s : Shared) (σ : St) (H : Hp) (Q : VK), Inv X pins σ H s → t σ H Q → wpAny (model X.prog X.w) X.A (eval e X.env) (EP X pins σ Q) X.xe s
def PT (X : Cx) (e : Expr) (t : TT) : Prop :=
  ∀ (pins : List (Addr × Obj)) (s : Shared) (σ : St) (H : Hp) (Q : Bool → Hp → Prop), Inv X pins σ H s → t σ H Q → wpAny (model X.prog X.w) X.A (isTrue e X.env (eval e X.env)) (TP X pins σ Q) X.xe s
/-- a test whatever its 'whole' is (and, or) -/
def PW (X : Cx) (e : Expr) (t : TT) : Prop :=
  ∀ (whole : Sem Value) (pins : List (Addr × Obj)) (s : Shared) (σ : St) (H : Hp) (Q : Bool → Hp → Prop), Inv X pins σ H s → t σ H Q → wpAny (model X.prog X.w) X.A (isTrue e X.env whole) (TP X pins σ Q) X.xe s
theorem PW.pt {X : Cx} {e : Expr} {t : TT} (h : PW X e t) : PT X e t := h _
/-- an argument list (no star), from the left -/
def PA (X : Cx) (es : List Expr) (t : TA) : Prop :=
  ∀ (pos : Pos) (pins : List (Addr × Obj)) (s : Shared) (σ : St) (H : Hp) (Q : List V → Hp → Prop), Inv X pins σ H s → t σ H Q → wpAny (model X.prog X.w) X.A (spliced (backTo pos (starEach es X.env))) (AP X pins σ Q) X.xe s
def PS (X : Cx) (st : Stmt) (t : TS) : Prop :=
  ∀ (pins : List (Addr × Obj)) (s : Shared) (σ : St) (H : Hp) (D : Ends), Inv X pins σ H s → t D σ H → wpAny (model X.prog X.w) X.A (exec st X.env) (SP X pins D) X.xe s
def PSs (X : Cx) (st : List Stmt) (t : TS) : Prop :=
  ∀ (pins : List (Addr × Obj)) (s : Shared) (σ : St) (H : Hp) (D : Ends), Inv X pins σ H s → t D σ H → wpAny (model X.prog X.w) X.A (execs st X.env) (SP X pins D) X.xe s
/-- weaken the end -/
theorem thn {α : Type} {t : Sem α} {Q Q' : α → Shared → Prop} {M : Model} {A : Around} {E : Value → Shared → Prop} {s : Shared} (h : wpAny M A t Q E s) (hQ : ∀ a s, Q a s → Q' a s) : wpAny M A t Q' E s := wpAny_mono h hQ fun _ _ x => x
end L2

namespace L2
open PySem PySem.Spec PyProof.Rows
section
variable {X : Cx}

/-! ### names and constants -/
def tVar (i : Nat) : TE := fun σ H Q => ∃ v, σ[i]? = some (some v) ∧ Q v H
def tC (v : V) : TE := fun _ H Q => Q v H
theorem pe_var {i : Nat} {x : Str} {pos : Pos} (hN : X.N[i]? = some x) (hv : Vis X.env.scope x) (hd : (x == ("__debug__" : Str)) = false := by decide) (hcd : (x == ("__classdict__" : Str)) = false := by decide) : PE X (.Name x pos) (tVar i) := by
  intro pins s σ H Q I h
  obtain ⟨v, e, h⟩ := h
  obtain ⟨m, hn, hl⟩ := I.loc
  obtain ⟨u, r, l⟩ := hl i x v hN e hv
  have fin : EP X pins σ Q u s := ⟨v, H, I, r, h⟩
  rcases l with ⟨hk, hm⟩ | ⟨hk, c, hc, hcell⟩
  · exact wpAny_Name (wpAny_loadName_local I.ok.kind hk hn hm fin) hd
  · rcases hk with hk | hk
    · exact wpAny_Name (wpAny_loadName_cell I.ok.kind hk hc hcell fin) hd
    · exact wpAny_Name (wpAny_loadName_free I.ok.kind hk hc hcell fin hcd) hd
theorem pe_int {i j pos} : PE X (.Constant (.int i) j pos) (tC (.int i)) := fun _ _ _ H _ I h => wpAny_Constant_int ⟨.int i, H, I.tok _, ⟨_, rfl⟩, h⟩
theorem pe_bl {b j pos} : PE X (.Constant (.bool b) j pos) (tC (.bl b)) := fun _ _ _ H _ I h => Constant_bool ⟨.bl b, H, I, rfl, h⟩
theorem pe_non {j pos} : PE X (.Constant .none j pos) (tC .non) := fun _ _ _ H _ I h => Constant_none ⟨.non, H, I, rfl, h⟩
theorem pe_str {x j pos} : PE X (.Constant (.str x) j pos) (tC (.str x)) := fun _ _ _ H _ I h => Calls.Constant_str ⟨.str x, H, I.tok _, ⟨_, rfl⟩, h⟩

/-- a global name of the def -/
def Gl (X : Cx) (x : Str) : Prop := X.env.kindOf x = some .globalImplicit
theorem ld_glob {E : Value → Shared → Prop} {pins : List (Addr × Obj)} {s : Shared} {σ : St} {H : Hp} {x : Str} {u : Value} {pos : Pos} {Q : Value → Shared → Prop} (I : Inv X pins σ H s) (hg : Gl X x) (hm : X.mg x = some u) (h : Q u s)
    (hd : (x == ("__debug__" : Str)) = false := by decide) : wpAny (model X.prog X.w) X.A (eval (.Name x pos) X.env) Q E s :=
  Calls.Name_function_global I.ok.kind hg (Calls.loadGlobal_global (by rw [I.ok.glob]; exact I.mod.glob.keeps I.bk) hm h) hd
theorem ld_blt {E : Value → Shared → Prop} {pins : List (Addr × Obj)} {s : Shared} {σ : St} {H : Hp} {x : Str} {u : Value} {pos : Pos} {Q : Value → Shared → Prop} (I : Inv X pins σ H s) (hg : Gl X x) (hm : X.mg x = none) (hv : bootBuiltins x = some u) (h : Q u s)
    (hn : x ≠ "__name__" := by decide) (hd : (x == ("__debug__" : Str)) = false := by decide) : wpAny (model X.prog X.w) X.A (eval (.Name x pos) X.env) Q E s := by
  obtain ⟨mb, h1, h2⟩ := I.mod.blt
  exact Calls.Name_function_global I.ok.kind hg (Calls.loadGlobal_builtin (by rw [I.ok.glob]; exact I.mod.glob.keeps I.bk) hm (by rw [I.ok.blt]; exact h1.keeps I.bk) ((h2 x hn).trans hv) h) hd
/-- a module's constant, a class, a function, as a value -/
theorem pe_glob {x : Str} {v : V} {u : Value} {pos : Pos} (hg : Gl X x) (hm : X.mg x = some u) (r : RelV v u) (hd : (x == ("__debug__" : Str)) = false := by decide) : PE X (.Name x pos) (tC v) :=
  fun _ _ _ H _ I h => ld_glob I hg hm ⟨v, H, I, r, h⟩ hd
theorem pe_bltn {x : Str} {v : V} {u : Value} {pos : Pos} (hg : Gl X x) (hm : X.mg x = none) (hv : bootBuiltins x = some u) (r : RelV v u) (hn : x ≠ "__name__" := by decide) (hd : (x == ("__debug__" : Str)) = false := by decide) : PE X (.Name x pos) (tC v) :=
  fun _ _ _ H _ I h => ld_blt I hg hm hv ⟨v, H, I, r, h⟩ hn hd

/-! ### arithmetic -/
/-- two ints -/
def t2I (ta tb : TE) (k : Int → Int → Hp → Prop) : St → Hp → Prop := fun σ H => ta σ H fun x H1 => tb σ H1 fun y H2 => ∃ i j, x = .int i ∧ y = .int j ∧ k i j H2
def tAdd (ta tb : TE) : TE := fun σ H Q => t2I ta tb (fun i j H2 => Q (.int (i + j)) H2) σ H
def tSub (ta tb : TE) : TE := fun σ H Q => t2I ta tb (fun i j H2 => Q (.int (i - j)) H2) σ H
/-- the left factor below 2^64 -/
def tMul (ta tb : TE) : TE := fun σ H Q => t2I ta tb (fun i j H2 => (-(2 ^ 64) < i ∧ i < 2 ^ 64) ∧ Q (.int (i * j)) H2) σ H
variable {a b : Expr} {ta tb : TE} {pos : Pos}
/-! ### comparisons -/
def PC (X : Cx) (op : CmpOp) (a b : Expr) (t : TE) : Prop :=
  ∀ (pins : List (Addr × Obj)) (s : Shared) (σ : St) (H : Hp) (Q : VK), Inv X pins σ H s → t σ H Q →
    wpAny (model X.prog X.w) X.A (eval a X.env) (fun v s₁ => wpAny (model X.prog X.w) X.A (eval b X.env) (fun u s₂ => wpAny (model X.prog X.w) X.A (compareOp op v u) (EP X pins σ Q) X.xe s₂) X.xe s₁) X.xe s
def tCmp (p : Int → Int → Bool) (ta tb : TE) : TE := fun σ H Q => t2I ta tb (fun i j H2 => Q (.bl (p i j)) H2) σ H
abbrev tLt : TE → TE → TE := tCmp fun i j => decide (i < j)
abbrev tLe : TE → TE → TE := tCmp fun i j => decide (i ≤ j)
abbrev tGt : TE → TE → TE := tCmp fun i j => decide (j < i)
abbrev tGe : TE → TE → TE := tCmp fun i j => decide (j ≤ i)
abbrev tEqI : TE → TE → TE := tCmp fun i j => decide (i = j)
abbrev tNeI : TE → TE → TE := tCmp fun i j => !decide (i = j)
/-- is None -/
def tIsN (ta : TE) : TE := fun σ H Q => ta σ H fun x H1 => Q (.bl (decide (x = .non))) H1
def tNotN (ta : TE) : TE := fun σ H Q => ta σ H fun x H1 => Q (.bl (!decide (x = .non))) H1
/-- a comparison as a value, as a test -/
def tB (t : TE) : TT := fun σ H Q => t σ H fun x H1 => ∃ c, x = .bl c ∧ Q c H1
/-- an expression whose value is a bool, as a test -/
theorem pt_val {e : Expr} {t : TE} (h : PE X e t) (he : ∀ whole, isTrue e X.env whole = (do let v ← whole; standAt e.pos; holding [v] (truthy v)) := by intro _; rfl) : PT X e (tB t) := by
  intro pins s σ H Q I hw
  refine isTrue_plain (thn (h pins s σ H _ I hw) fun v s1 ⟨x, H1, I1, r1, q1⟩ => ?_) (he _)
  obtain ⟨d, rfl, q⟩ := q1
  cases r1
  exact wpAny_truthy_bool ⟨H1, I1, q⟩

/-! ### and, or, not -/
variable {tA tB' : TT} {rest : List Expr}
def tAnd (t u : TT) : TT := fun σ H Q => t σ H fun c H1 => if c = true then u σ H1 Q else Q false H1
def tOr (t u : TT) : TT := fun σ H Q => t σ H fun c H1 => if c = true then Q true H1 else u σ H1 Q
def tNot (t : TT) : TT := fun σ H Q => t σ H fun c H1 => Q (!c) H1
theorem pw_and1 (ha : PT X a tA) : PW X (.BoolOp .And [a] pos) tA := by
  intro wh pins s σ H Q I h
  refine isTrue_and (thn (ha pins s σ H Q I h) fun c s1 e => ?_)
  cases c with
  | true => exact isTrue_and_nil e
  | false => exact e
theorem pw_or1 (ha : PT X a tA) : PW X (.BoolOp .Or [a] pos) tA := by
  intro wh pins s σ H Q I h
  refine isTrue_or (thn (ha pins s σ H Q I h) fun c s1 e => ?_)
  cases c with
  | false => exact isTrue_or_nil e
  | true => exact e
theorem pw_and (ha : PT X a tA) (hb : PW X (.BoolOp .And (b :: rest) pos) tB') : PW X (.BoolOp .And (a :: b :: rest) pos) (tAnd tA tB') := by
  intro wh pins s σ H Q I h
  refine isTrue_and (thn (ha pins s σ H _ I h) fun c s1 ⟨H1, I1, q1⟩ => ?_)
  cases c with
  | true => exact hb wh pins s1 σ H1 Q I1 q1
  | false => exact ⟨H1, I1, q1⟩
theorem pw_or (ha : PT X a tA) (hb : PW X (.BoolOp .Or (b :: rest) pos) tB') : PW X (.BoolOp .Or (a :: b :: rest) pos) (tOr tA tB') := by
  intro wh pins s σ H Q I h
  refine isTrue_or (thn (ha pins s σ H _ I h) fun c s1 ⟨H1, I1, q1⟩ => ?_)
  cases c with
  | true => exact ⟨H1, I1, q1⟩
  | false => exact hb wh pins s1 σ H1 Q I1 q1
theorem pt_not (ha : PT X a tA) : PT X (.UnaryOp .Not a pos) (tNot tA) := by
  intro pins s σ H Q I h
  exact isTrue_not (ha pins s σ H (fun c H1 => Q (!c) H1) I h)
/-- .. as values (bools) -/
def tAndV (ta tb : TE) : TE := fun σ H Q => ta σ H fun x H1 => ∃ c, x = .bl c ∧ if c = true then tb σ H1 Q else Q (.bl false) H1
def tOrV (ta tb : TE) : TE := fun σ H Q => ta σ H fun x H1 => ∃ c, x = .bl c ∧ if c = true then Q (.bl true) H1 else tb σ H1 Q
def tNotV (ta : TE) : TE := fun σ H Q => ta σ H fun x H1 => ∃ c, x = .bl c ∧ Q (.bl (!c)) H1
theorem pe_one {op} {t : TE} (h : PE X a t) : PE X (.BoolOp op [a] pos) t := fun pins s σ H Q I hw => BoolOp_one (h pins s σ H Q I hw)
theorem pe_and (ha : PE X a ta) (hb : PE X (.BoolOp .And (b :: rest) pos) tb) : PE X (.BoolOp .And (a :: b :: rest) pos) (tAndV ta tb) := by
  intro pins s σ H Q I h
  refine BoolOp_and (thn (ha pins s σ H _ I h) fun v s1 ⟨x, H1, I1, r1, q1⟩ => ?_)
  obtain ⟨c, rfl, q1⟩ := q1
  cases r1
  refine wpAny_truthy_bool ?_
  cases c with
  | true => exact hb pins s1 σ H1 Q I1 q1
  | false => exact ⟨.bl false, H1, I1, rfl, q1⟩
/-- a if t else b -/
def tIf (t : TT) (ta tb : TE) : TE := fun σ H Q => t σ H fun c H1 => if c = true then ta σ H1 Q else tb σ H1 Q
end
end L2

namespace L2
open PySem PySem.Spec PyProof.Rows

/-! ### a list, a tuple that is read: tracked, frozen, or an object of the module -/
def SqL (K : PySem.W.Frag) (H : Hp) (a : Addr) (xs : List V) : Prop :=
  Rd H a (.lst xs) ∨
    ∃ (o : Obj) (its : Array Value) (n : Nat), K.lookup a = some o ∧ o.cls = .type "list" ∧ o.dict = none ∧ o.data = .seq its n ∧ its.size ≤ sizeLine ∧ Vals xs its.toList
def SqT (K : PySem.W.Frag) (H : Hp) (a : Addr) (xs : List V) : Prop :=
  Rd H a (.tup xs) ∨
    ∃ (o : Obj) (its : Array Value) (n : Nat), K.lookup a = some o ∧ o.cls = .type "tuple" ∧ o.data = .seq its n ∧ its.size ≤ sizeLine ∧ Vals xs its.toList
def absV : Value → Option V
  | .none => some .non
  | .bool b => some (.bl b)
  | .int i _ => some (.int i)
  | .str x _ => some (.str x)
  | .bytes b _ => some (.byt b)
  | .float b _ => some (.flt b)
  | .ref a => some (.ref a)
  | .type n => some (.ty n)
  | _ => none
theorem RelV.abs {x : V} {u : Value} (r : RelV x u) : absV u = some x := by
  cases x with
  | non => cases r; rfl
  | bl _ => cases r; rfl
  | int _ => obtain ⟨t, rfl⟩ := r; rfl
  | str _ => obtain ⟨t, rfl⟩ := r; rfl
  | byt _ => obtain ⟨t, rfl⟩ := r; rfl
  | flt _ => obtain ⟨t, rfl⟩ := r; rfl
  | ref _ => cases r; rfl
  | ty _ => cases r; rfl
theorem RelV.inj {x y : V} {u : Value} (r : RelV x u) (q : RelV y u) : x = y := Option.some.inj (r.abs.symm.trans q.abs)
theorem Vals.inj : ∀ {xs ys : List V} {us : List Value}, Vals xs us → Vals ys us → xs = ys
  | _, _, _, .nil, .nil => rfl
  | _, _, _, .cons r t, .cons r' t' => by rw [r.inj r', Vals.inj t t']
section
variable {X : Cx} {pins : List (Addr × Obj)} {σ : St} {H : Hp} {s : Shared} {a : Addr} {xs ys : List V}
theorem SqL.of {K : PySem.W.Frag} (h : H a = some (.lst xs)) : SqL K H a xs := .inl (.inl h)
theorem SqT.of {K : PySem.W.Frag} (h : H a = some (.tup xs)) : SqT K H a xs := .inl (.inl h)
theorem Inv.list (I : Inv X pins σ H s) (h : SqL X.K H a xs) : ∃ its : List Value, Vals xs its ∧ PlainL s.heap a its.toArray ∧ xs.length ≤ sizeLine := by
  rcases h with h | ⟨o, its, n, hk, hc, hd, hs, hz, r⟩
  · obtain ⟨z, its, n, r, e⟩ := h.ok I.hok
    exact ⟨its, r, ⟨_, n, e, rfl, rfl, rfl⟩, z⟩
  · refine ⟨its.toList, r, ⟨o, n, I.kIn a o hk, hc, hd, by simpa using hs⟩, ?_⟩
    have e := r.length
    simp only [Array.length_toList] at e
    omega
theorem Inv.tuple (I : Inv X pins σ H s) (h : SqT X.K H a xs) : ∃ its : List Value, Vals xs its ∧ IsTup s.heap a its.toArray ∧ xs.length ≤ sizeLine := by
  rcases h with h | ⟨o, its, n, hk, hc, hs, hz, r⟩
  · obtain ⟨z, its, r, p⟩ := h.ok I.hok
    exact ⟨its, r, p, z⟩
  · refine ⟨its.toList, r, ⟨o, I.kIn a o hk, hc, n, by simpa using hs⟩, ?_⟩
    have e := r.length
    simp only [Array.length_toList] at e
    omega
theorem Inv.list_inj (I : Inv X pins σ H s) (h : SqL X.K H a xs) (h' : SqL X.K H a ys) : xs = ys := by
  obtain ⟨its, r, ⟨o, n, e, _, _, d⟩, _⟩ := I.list h
  obtain ⟨its', r', ⟨o', n', e', _, _, d'⟩, _⟩ := I.list h'
  rw [e] at e'; cases e'
  rw [d] at d'
  injection d' with d1 _
  have : its = its' := by simpa using congrArg Array.toList d1
  subst this
  exact r.inj r'
theorem Inv.tuple_inj (I : Inv X pins σ H s) (h : SqT X.K H a xs) (h' : SqT X.K H a ys) : xs = ys := by
  obtain ⟨its, r, ⟨o, e, _, n, d⟩, _⟩ := I.tuple h
  obtain ⟨its', r', ⟨o', e', _, n', d'⟩, _⟩ := I.tuple h'
  rw [e] at e'; cases e'
  rw [d] at d'
  injection d' with d1 _
  have : its = its' := by simpa using congrArg Array.toList d1
  subst this
  exact r.inj r'
end

/-! ### another wish about exceptions -/
abbrev Cx.wish (X : Cx) (E : Value → Shared → Prop) : Cx := { X with xe := E }
/-- no exception leaves -/
abbrev Cx.nox (X : Cx) : Cx := X.wish fun _ _ => False
theorem Cx.Ok.wish {X : Cx} (ok : X.Ok) (E : Value → Shared → Prop) : (X.wish E).Ok :=
  ⟨ok.mod, ok.kind, ok.glob, ok.blt, ok.above, ok.inj, ok.has, ok.cab, ok.hd, ok.frames, ok.stk, ok.exf, ok.bs, ok.bsz, ok.noex, ok.exfs, ok.funs, ok.frf⟩
theorem Cx.Ok.unwish {X : Cx} {E : Value → Shared → Prop} (ok : (X.wish E).Ok) : X.Ok :=
  ⟨ok.mod, ok.kind, ok.glob, ok.blt, ok.above, ok.inj, ok.has, ok.cab, ok.hd, ok.frames, ok.stk, ok.exf, ok.bs, ok.bsz, ok.noex, ok.exfs, ok.funs, ok.frf⟩
section
variable {X : Cx} {pins : List (Addr × Obj)} {σ : St} {H : Hp} {s : Shared} {E : Value → Shared → Prop}
theorem Inv.wish (I : Inv X pins σ H s) (E : Value → Shared → Prop) : Inv (X.wish E) pins σ H s := ⟨I.ok.wish E, I.os, I.bare, I.base, I.loc, I.cell, I.free, I.freeC, I.pin, I.hok, I.len⟩
theorem Inv.unwish (I : Inv (X.wish E) pins σ H s) : Inv X pins σ H s := ⟨I.ok.unwish, I.os, I.bare, I.base, I.loc, I.cell, I.free, I.freeC, I.pin, I.hok, I.len⟩
theorem SP.unwish {D : Ends} {f : Flow} {s' : Shared} (h : SP (X.wish E) pins D f s') : SP X pins D f s' := by
  cases f with
  | next => obtain ⟨σ', H', I, q⟩ := h; exact ⟨σ', H', I.unwish, q⟩
  | brk => obtain ⟨σ', H', I, q⟩ := h; exact ⟨σ', H', I.unwish, q⟩
  | cont => obtain ⟨σ', H', I, q⟩ := h; exact ⟨σ', H', I.unwish, q⟩
  | ret u => obtain ⟨v, σ', H', I, r, q⟩ := h; exact ⟨v, σ', H', I.unwish, r, q⟩
theorem PE.nox {e : Expr} {t : TE} (h : PE X.nox e t) : PE X e t := fun pins s σ H Q I hw =>
  wpAny_mono (h pins s σ H Q (I.wish _) hw) (fun _ _ ⟨v, H', I', r, q⟩ => ⟨v, H', I'.unwish, r, q⟩) fun _ _ z => False.elim z
theorem PT.nox {e : Expr} {t : TT} (h : PT X.nox e t) : PT X e t := fun pins s σ H Q I hw =>
  wpAny_mono (h pins s σ H Q (I.wish _) hw) (fun _ _ ⟨H', I', q⟩ => ⟨H', I'.unwish, q⟩) fun _ _ z => False.elim z
theorem PSs.nox {st : List Stmt} {t : TS} (h : PSs X.nox st t) : PSs X st t := fun pins s σ H D I hw =>
  wpAny_mono (h pins s σ H D (I.wish _) hw) (fun _ _ q => q.unwish) fun _ _ z => False.elim z
end

/-! ### blocks and small statements -/
section
variable {X : Cx} {st : Stmt} {rest : List Stmt} {t u : TS} {e : Expr} {te : TE} {pos : Pos}
def tNext : TS := fun D σ H => D.nx σ H
def tSeq (t u : TS) : TS := fun D σ H => t { D with nx := u D } σ H
theorem pss_nil : PSs X [] tNext := fun _ _ σ H _ I h => wpAny_execs_nil ⟨σ, H, I, h⟩
theorem pss_cons (h1 : PS X st t) (h2 : PSs X rest u) : PSs X (st :: rest) (tSeq t u) := by
  intro pins s σ H D I h
  refine wpAny_execs_cons (thn (h1 pins s σ H { D with nx := u D } I h) fun f s1 q => ?_)
  cases f with
  | next =>
    obtain ⟨σ', H', I', q⟩ := q
    exact h2 pins s1 σ' H' D I' q
  | ret v => exact q
  | brk => exact q
  | cont => exact q
theorem pss_one (h1 : PS X st t) : PSs X [st] t := by
  intro pins s σ H D I h
  refine wpAny_execs_cons (thn (h1 pins s σ H D I h) fun f s1 q => ?_)
  cases f with
  | next => exact wpAny_execs_nil q
  | ret v => exact q
  | brk => exact q
  | cont => exact q
def tBreak : TS := fun D σ H => D.bk σ H
def tCont : TS := fun D σ H => D.ct σ H
/-- in a def's body nothing is shown -/
theorem Inv.quiet {pins : List (Addr × Obj)} {σ : St} {H : Hp} {s : Shared} (I : Inv X pins σ H s) : interactive X.env = false := by simp [interactive, I.ok.kind]
/-- an expression whose value is dropped -/
def tDrop (te : TE) : TS := fun D σ H => te σ H fun _ H1 => D.nx σ H1
theorem ps_expr (he : PE X e te) (hs : swapsWith e none pos.line X.env = pure false := by rfl) : PS X (.Expr e pos) (tDrop te) := by
  intro pins s σ H D I h
  exact wpAny_Expr_any (thn (he pins s σ H _ I h) fun v s1 ⟨x, H1, I1, r1, q1⟩ => ⟨σ, H1, I1, q1⟩) I.quiet hs
def tRet (te : TE) : TS := fun D σ H => te σ H D.rt
theorem ps_ret (he : PE X e te) : PS X (.Return (some e) pos) (tRet te) := by
  intro pins s σ H D I h
  exact wpAny_Return_some (thn (he pins s σ H _ I h) fun v s1 ⟨x, H1, I1, r1, q1⟩ => ⟨x, σ, H1, I1, r1, q1⟩)
def tRetN : TS := fun D _ H => D.rt .non H
def tIfS (c : TT) (t u : TS) : TS := fun D σ H => c σ H fun b H1 => if b = true then t D σ H1 else u D σ H1
theorem ps_if {c : Expr} {a b : List Stmt} {tc : TT} (hc : PT X c tc) (ha : PSs X a t) (hb : PSs X b u) : PS X (.If c a b pos) (tIfS tc t u) := by
  intro pins s σ H D I h
  refine wpAny_If (thn (hc pins s σ H _ I h) fun d s1 ⟨H1, I1, q1⟩ => ?_)
  cases d with
  | true => exact ha pins s1 σ H1 D I1 q1
  | false => exact hb pins s1 σ H1 D I1 q1
/-- code that the proof never comes to -/
def tNever : TS := fun _ _ _ => False
end

/-! ### targets -/
abbrev TG := V → St → Hp → (St → Hp → Prop) → Prop
abbrev TGs := List V → St → Hp → (St → Hp → Prop) → Prop
def PG (X : Cx) (target : Expr) (t : TG) : Prop :=
  ∀ (pins : List (Addr × Obj)) (s : Shared) (σ : St) (H : Hp) (v : V) (u : Value) (Q : St → Hp → Prop), Inv X pins σ H s → RelV v u → t v σ H Q →
    wpAny (model X.prog X.w) X.A (assign target X.env u) (fun _ s' => ∃ σ' H', Inv X pins σ' H' s' ∧ Q σ' H') X.xe s
/-- several targets, one after another -/
def PGs (X : Cx) (ts : List Expr) (t : TGs) : Prop :=
  ∀ (pins : List (Addr × Obj)) (s : Shared) (σ : St) (H : Hp) (vs : List V) (us : List Value) (Q : St → Hp → Prop), Inv X pins σ H s → Vals vs us → t vs σ H Q →
    wpAny (model X.prog X.w) X.A (assignInOrder ((assignEach ts X.env).map (·.2)) us) (fun _ s' => ∃ σ' H', Inv X pins σ' H' s' ∧ Q σ' H') X.xe s
/-- o[i] = v, by values -/
abbrev TSet := V → V → V → Hp → (Hp → Prop) → Prop
def PSet (X : Cx) (t : TSet) : Prop :=
  ∀ (pins : List (Addr × Obj)) (s : Shared) (σ : St) (H : Hp) (o i v : V) (ov iv u : Value) (Q : Hp → Prop), Inv X pins σ H s → RelV o ov → RelV i iv → RelV v u → t o i v H Q →
    wpAny (model X.prog X.w) X.A (setItem ov iv u) (fun _ s' => ∃ H', Inv X pins σ H' s' ∧ Q H') X.xe s
/-- a op= b, by values -/
abbrev TIp := V → V → Hp → VK → Prop
def PIp (X : Cx) (op : Operator) (t : TIp) : Prop :=
  ∀ (pins : List (Addr × Obj)) (s : Shared) (σ : St) (H : Hp) (x y : V) (v u : Value) (Q : VK), Inv X pins σ H s → RelV x v → RelV y u → t x y H Q →
    wpAny (model X.prog X.w) X.A (inplaceOp op v u) (EP X pins σ Q) X.xe s
section
variable {X : Cx} {pos : Pos}
def gName (i : Nat) : TG := fun v σ H Q => Q (σ.set i (some v)) H
theorem pg_name {i : Nat} {x : Str} (hN : X.N.Nodup) (hi : X.N[i]? = some x) (hx : Loc X.env.scope x) (hf : X.fn x = true ∨ X.env.scope.names.lookup x = some .local := by first | exact .inl rfl | exact .inr rfl | assumption) : PG X (.Name x pos) (gName i) := by
  intro pins s σ H v u Q I r h
  exact wpAny_assign_Name (store_ok I hN hi hx r (fun s' I' => ⟨_, H, I', h⟩) hf)
def gNil : TGs := fun vs σ H Q => vs = [] ∧ Q σ H
def gCons (t : TG) (u : TGs) : TGs := fun vs σ H Q => ∃ v r, vs = v :: r ∧ t v σ H fun σ' H' => u r σ' H' Q
theorem pgs_nil : PGs X [] gNil := by
  intro pins s σ H vs us Q I r h
  obtain ⟨e, h⟩ := h
  subst e
  cases r
  exact assignInOrder_nil ⟨σ, H, I, h⟩
theorem pgs_cons {e : Expr} {es : List Expr} {t : TG} {u : TGs} (h1 : PG X e t) (h2 : PGs X es u)
    (hs : (assignEach (e :: es) X.env).map (·.2) = assign e X.env :: (assignEach es X.env).map (·.2) := by rfl) : PGs X (e :: es) (gCons t u) := by
  intro pins s σ H vs us Q I r h
  obtain ⟨v, vr, e1, h⟩ := h
  subst e1
  cases r with
  | cons r rr =>
    rw [hs]
    refine assignInOrder_cons (thn (h1 pins s σ H _ _ _ I r h) fun _ s1 ⟨σ1, H1, I1, q1⟩ => ?_)
    exact h2 pins s1 σ1 H1 _ _ Q I1 rr q1
/-- (a, b, ..) = a tuple of that length -/
def gTup (K : PySem.W.Frag) (n : Nat) (t : TGs) : TG := fun v σ H Q => ∃ a xs, v = .ref a ∧ SqT K H a xs ∧ xs.length = n ∧ t xs σ H Q
theorem pg_tup {es : List Expr} {k : Nat} {t : TGs} {n : Nat} (hc : X.calm = true) (h : PGs X es t)
    (hn : (assignEach es X.env).length = n := by rfl) (hst : (assignEach es X.env).findIdx? (·.1) = none := by rfl) : PG X (.Tuple es k pos) (gTup X.K n t) := by
  intro pins s σ H v u Q I r hw
  obtain ⟨a, xs, e1, hq, hl, hw⟩ := hw
  subst e1
  cases r
  obtain ⟨its, rv, ht, hz⟩ := I.tuple hq
  refine assign_Tuple_tuple (I.ok.hd hc) ht (by simp [hn, ← hl, rv.length]) hst fun h' hx => ?_
  have I1 : Inv X pins σ H { s with heap := h' } := I.kept (t' := s.toks) fun b o e => hx b o (Nat.ne_of_lt (Heap.lt_size e)) e
  exact h pins _ σ H xs _ Q I1 (by simpa using rv) hw
/-- o[i] = .. -/
def gSub (to ti : TE) (t : TSet) : TG := fun v σ H Q => to σ H fun o H1 => ti σ H1 fun i H2 => t o i v H2 fun H3 => Q σ H3
theorem pg_sub {o i : Expr} {to ti : TE} {t : TSet} (ho : PE X o to) (hi : PE X i ti) (hs : PSet X t)
    (ha : ∀ v, assign (.Subscript o i pos) X.env v = (do
      let ov ← holding [v] (eval o X.env)
      let iv ← holding [v, ov] (eval i X.env)
      standAt pos
      holding [v, ov, iv] (setItem ov iv v)
      release [v, ov, iv] []) := by intro _; rfl) : PG X (.Subscript o i pos) (gSub to ti t) := by
  intro pins s σ H v u Q I r h
  rw [ha]
  refine wpAny_bind (wpAny_holding (thn (ho pins s σ H _ I h) fun ov s1 ⟨x, H1, I1, r1, q1⟩ => ?_))
  refine wpAny_bind (wpAny_holding (thn (hi pins s1 σ H1 _ I1 q1) fun iv s2 ⟨y, H2, I2, r2, q2⟩ => ?_))
  refine wpAny_bind (wpAny_standAt (wpAny_bind (wpAny_holding (thn (hs pins s2 σ H2 x y v ov iv u _ I2 r1 r2 r q2) fun _ s3 ⟨H3, I3, q3⟩ => ?_))))
  exact wpAny_release ⟨σ, H3, I3, q3⟩
/-- target = value -/
def tAsg (te : TE) (g : TG) : TS := fun D σ H => te σ H fun x H1 => g x σ H1 D.nx
theorem ps_asg {tg e : Expr} {te : TE} {g : TG} (he : PE X e te) (hg : PG X tg g) (hs : swapsWithSole [tg] e pos.line X.env = pure false := by rfl) (hw : swappedStores [tg] e X.env = pure none := by rfl)
    (h1 : (assignEach [tg] X.env).map (·.2) = [assign tg X.env] := by rfl) : PS X (.Assign [tg] e pos) (tAsg te g) := by
  intro pins s σ H D I h
  refine wpAny_Assign_stores (thn (he pins s σ H _ I h) fun v s1 ⟨x, H1, I1, r1, q1⟩ => ?_) hs hw
  rw [h1]
  exact thn (hg pins s1 σ H1 x v _ I1 r1 q1) fun _ s2 q => q
/-- name = value -/
theorem ps_set {i : Nat} {x : Str} {e : Expr} {te : TE} {pos' : Pos} (hN : X.N.Nodup) (hi : X.N[i]? = some x) (hx : Loc X.env.scope x) (he : PE X e te) (hs : swapsWith e (some (.Name x pos')) pos.line X.env = pure false := by rfl) (hf : X.fn x = true ∨ X.env.scope.names.lookup x = some .local := by first | exact .inl rfl | exact .inr rfl | assumption) :
    PS X (.Assign [.Name x pos'] e pos) (tAsg te (gName i)) := by
  intro pins s σ H D I h
  refine wpAny_Assign_Name (thn (he pins s σ H _ I h) fun v s1 ⟨y, H1, I1, r1, q1⟩ => ?_) hs
  exact store_ok I1 hN hi hx r1 (fun s2 I2 => ⟨_, H1, I2, q1⟩) hf
/-- a, b = x, y with plain local names: stored from the right; the pair itself is not tracked (the opening rows as in PyProof/Rows/TupAssign.lean:23) -/
def tPar (i j : Nat) (ta : TA) : TS := fun D σ H => ta σ H fun vs H1 => ∃ v w, vs = [v, w] ∧ D.nx ((σ.set i (some v)).set j (some w)) H1
/-- name op= e -/
def tAug (i : Nat) (te : TE) (ti : TIp) : TS := fun D σ H => ∃ x, σ[i]? = some (some x) ∧ te σ H fun y H1 => ti x y H1 fun z H2 => D.nx (σ.set i (some z)) H2
/-- o[i] op= e -/
def tAugS (to ti te : TE) (tget : V → V → Hp → VK → Prop) (tip : TIp) (tset : TSet) : TS := fun D σ H => to σ H fun o H1 => ti σ H1 fun i H2 => tget o i H2 fun x H3 => te σ H3 fun y H4 => tip x y H4 fun z H5 => tset o i z H5 fun H6 => D.nx σ H6
/-- o[i], by values -/
def PGet (X : Cx) (t : V → V → Hp → VK → Prop) : Prop :=
  ∀ (pins : List (Addr × Obj)) (s : Shared) (σ : St) (H : Hp) (o i : V) (ov iv : Value) (Q : VK), Inv X pins σ H s → RelV o ov → RelV i iv → t o i H Q →
    wpAny (model X.prog X.w) X.A (getItem ov iv) (EP X pins σ Q) X.xe s
/-- ints -/
def ipI (f : Int → Int → Int) : TIp := fun x y H Q => ∃ i j, x = .int i ∧ y = .int j ∧ Q (.int (f i j)) H
end

/-! ### while -/
section
variable {X : Cx} {pos : Pos}
/-- the invariant W with its measure -/
def tWhile (c : TT) (tb : TS) : TS := fun D σ H => ∃ W : Nat → St → Hp → Prop, (∃ m, W m σ H) ∧ ∀ m σ H, W m σ H →
  c σ H fun b H1 => if b = true then ∃ N : St → Hp → Prop, (∀ σ' H', N σ' H' → ∃ m', m' < m ∧ W m' σ' H') ∧ tb { D with nx := N, ct := N, bk := D.nx } σ H1 else D.nx σ H1
end

/-! ### what a loop or a comprehension walks -/
/-- at turn i: it yields x (the heap may grow), or it stops -/
structure It where
  go : Nat → Hp → Prop
  yld : Nat → Hp → V → Hp → Prop
  stop : Nat → Hp → Prop
/-- the iterator's own objects may turn: they are not the frame's, not pinned, younger than the entry (or a comprehension's own) -/
def FpOk (X : Cx) (pins : List (Addr × Obj)) (H : Hp) (b : Addr) : Prop :=
  H b = none ∧ b ≠ X.env.locals ∧ b ∉ X.fs ∧ (b ∈ X.ex ∨ X.s₀.heap.objs.size ≤ b) ∧ (∀ x c, X.env.cells.lookup x = some c → c ≠ b) ∧ ∀ p ∈ X.pn ++ pins, p.1 ≠ b
theorem Inv.fpOk {X : Cx} {pins : List (Addr × Obj)} {σ : St} {H H' : Hp} {s : Shared} {b : Addr} (I : Inv X pins σ H s) (hb : s.heap.objs.size ≤ b) (hn : H' b = none) : FpOk X pins H' b := by
  refine ⟨hn, Nat.ne_of_gt (Nat.lt_of_lt_of_le I.lt hb), I.nofs hb, .inr (Nat.le_trans I.sz hb), fun x c e z => ?_, fun p hp z => ?_⟩
  · obtain ⟨v, q⟩ := I.cell x c e
    exact absurd (Nat.lt_of_lt_of_le q.lt (by rw [z]; exact hb)) (Nat.lt_irrefl _)
  · exact absurd (Nat.lt_of_lt_of_le (Heap.lt_size (I.pin p hp).1) (by rw [z]; exact hb)) (Nat.lt_irrefl _)
structure Turn (P : Program) (w : World) (K : PySem.W.Frag) (tg : Expr) (J : It) (fp : List Addr) (it : Addr) (tn : Nat → Heap → Prop) : Prop where
  mem : it ∈ fp
  obj : ∀ i h, tn i h → ∀ b ∈ fp, ∃ o, h.get? b = some o ∧ ∀ v, o.data ≠ .cell v
  keep : ∀ i h h', tn i h → (∀ b ∈ fp, ∀ o, h.get? b = some o → h'.get? b = some o) → tn i h'
  item : ∀ (X : Cx), X.prog = P → X.w = w → X.K = K → X.calm = true → ∀ (i : Nat) (pins : List (Addr × Obj)) (s : Shared) (σ : St) (H : Hp) (E : Value → Shared → Prop), Inv X pins σ H s → (∀ b ∈ fp, FpOk X pins H b) → tn i s.heap → J.go i H →
    wpAny (model P w) X.A (pyNext (.ref it)) (fun r s1 => ∃ u, r = some u ∧
      wpAny (model P w) X.A (letOwnedTupleGo tg (.ref it) u) (fun _ s2 => ∃ x H', Inv X pins σ H' s2 ∧ RelV x u ∧ J.yld i H x H' ∧ tn (i + 1) s2.heap ∧ ∀ b ∈ fp, H' b = none) E s1) E s
  done : ∀ (X : Cx), X.prog = P → X.w = w → X.K = K → X.calm = true → ∀ (i : Nat) (pins : List (Addr × Obj)) (s : Shared) (σ : St) (H : Hp) (E : Value → Shared → Prop), Inv X pins σ H s → (∀ b ∈ fp, FpOk X pins H b) → tn i s.heap → J.stop i H →
    wpAny (model P w) X.A (pyNext (.ref it)) (fun r s1 => r = none ∧ Inv X pins σ H s1) E s
  self : ∀ (A : Around) (i : Nat) (s : Shared) (Q : Value → Shared → Prop) (E : Value → Shared → Prop), tn i s.heap → Q (.ref it) s → wpAny (model P w) A (pyIter (.ref it)) Q E s
abbrev TI := St → Hp → (It → Hp → Prop) → Prop
/-- an iterator has come -/
def PIE (X : Cx) (pins : List (Addr × Obj)) (σ : St) (tg : Expr) (R : It → Hp → Prop) (itv : Value) (s2 : Shared) : Prop :=
  ∃ (it : Addr) (fp : List Addr) (tn : Nat → Heap → Prop) (J : It) (H' : Hp), itv = .ref it ∧ Inv X pins σ H' s2 ∧ Turn X.prog X.w X.K tg J fp it tn ∧ tn 0 s2.heap ∧ (∀ b ∈ fp, FpOk X pins H' b) ∧ R J H'
def PI (X : Cx) (tg iter : Expr) (wi : TI) : Prop :=
  ∀ (pins : List (Addr × Obj)) (s : Shared) (σ : St) (H : Hp) (R : It → Hp → Prop), Inv X pins σ H s → wi σ H R →
    wpAny (model X.prog X.w) X.A (eval iter X.env) (fun v s1 => wpAny (model X.prog X.w) X.A (pyIter v) (PIE X pins σ tg R) X.xe s1) X.xe s

/-- the step ahead of the store is nothing for an iterator that keeps no tuple -/
theorem go_of {M : Model} {A : Around} {E : Value → Shared → Prop} {s : Shared} {tg : Expr} {it : Addr} {u : Value} {o : Obj} {n : String} {vs : Array Value} {Q : Unit → Shared → Prop} (ho : s.heap.get? it = some o) (hc : o.cls = .type n) (hd : o.data = .fields vs)
    (hn : ["enumerate", "zip", "dict_itemiterator", "dict_reverseitemiterator", "odict_iterator", "itertools.zip_longest", "itertools.pairwise"].contains n = false) (hQ : Q () s) : wpAny M A (letOwnedTupleGo tg (.ref it) u) Q E s := by
  unfold letOwnedTupleGo
  cases tg <;> first
    | exact wpAny_pure hQ
    | (cases u <;> first
        | exact wpAny_pure hQ
        | (refine wpAny_bind (wpAny_load ho ?_)
           rw [hc, hd]
           show wpAny M A (if (["enumerate", "zip", "dict_itemiterator", "dict_reverseitemiterator", "odict_iterator", "itertools.zip_longest", "itertools.pairwise"].contains n && vs[0]? == some (rawInt _)) = true then _ else _) Q E s
           rw [if_neg (by intro h; rw [hn, Bool.false_and] at h; cases h)]
           exact wpAny_pure hQ))

/-- the list at a, as it stands at each turn (a loop may append to it) -/
def Itl (K : PySem.W.Frag) (a : Addr) : It :=
  ⟨fun i H => ∃ xs x, SqL K H a xs ∧ xs[i]? = some x, fun i H x H' => H' = H ∧ ∀ xs, SqL K H a xs → xs[i]? = some x, fun i H => ∃ xs, SqL K H a xs ∧ xs.length ≤ i⟩
def Itt (K : PySem.W.Frag) (a : Addr) : It :=
  ⟨fun i H => ∃ xs x, SqT K H a xs ∧ xs[i]? = some x, fun i H x H' => H' = H ∧ ∀ xs, SqT K H a xs → xs[i]? = some x, fun i H => ∃ xs, SqT K H a xs ∧ xs.length ≤ i⟩
/-- lo, lo + 1, .. (n of them) -/
def Itr (lo : Int) (n : Nat) : It := ⟨fun i _ => i < n, fun i H x H' => H' = H ∧ x = .int (lo + i), fun i _ => n ≤ i⟩
theorem turn_list {P : Program} {w : World} {K : PySem.W.Frag} {tg : Expr} (a it : Addr) : Turn P w K tg (Itl K a) [it] it (fun i h => h.IsListIter it a i) where
  mem := by simp
  obj := fun i h st b hb => by
    have e : b = it := by simpa using hb
    subst e
    obtain ⟨o, e, c, d⟩ := st
    exact ⟨o, e, fun v z => by rw [d] at z; cases z⟩
  keep := fun i h h' st k => st.at fun o e => k it (by simp) o e
  item := by
    intro X hP hw hK hc i pins s σ H E I hf st hg
    subst hP hw hK
    obtain ⟨xs, x, hq, hx⟩ := hg
    obtain ⟨its, rv, p, hz⟩ := I.list hq
    obtain ⟨u, hu, ru⟩ := rv.get hx
    obtain ⟨f0, f1, f2, f3, f4, f5⟩ := hf it (by simp)
    refine wpAny_pyNext_list_item st p.isList (x := u) (by simpa using hu) fun h' st' sb => ?_
    have I1 : Inv X pins σ H { s with heap := h' } := I.turned (t' := s.toks) (fun b o hb e => (sb.2 b hb).trans e) f0 f1 f3 f4 f5
    obtain ⟨o, e, c, d⟩ := id st'
    exact ⟨u, rfl, go_of (s := { s with heap := h' }) e c d (by decide) ⟨x, H, I1, ru, ⟨rfl, fun ys hy => by rw [I.list_inj hy hq]; exact hx⟩, st', fun b hb => (hf b hb).1⟩⟩
  done := by
    intro X hP hw hK hc i pins s σ H E I hf st hg
    subst hP hw hK
    obtain ⟨xs, hq, hx⟩ := hg
    obtain ⟨its, rv, p, hz⟩ := I.list hq
    obtain ⟨f0, f1, f2, f3, f4, f5⟩ := hf it (by simp)
    have hl := rv.length
    exact wpAny_pyNext_list_end (I.ok.hd hc) st p.isList (by simp; omega) fun h' eb => ⟨rfl, I.turned (t' := s.toks) (fun b o hb e => eb b o hb e) f0 f1 f3 f4 f5⟩
  self := fun _ _ _ _ _ st h => wpAny_pyIter_listiter st h
theorem turn_tuple {P : Program} {w : World} {K : PySem.W.Frag} {tg : Expr} (a it : Addr) : Turn P w K tg (Itt K a) [it] it (fun i h => h.IsTupleIter it a i) where
  mem := by simp
  obj := fun i h st b hb => by
    have e : b = it := by simpa using hb
    subst e
    obtain ⟨o, e, c, d⟩ := st
    exact ⟨o, e, fun v z => by rw [d] at z; cases z⟩
  keep := fun i h h' st k => st.at fun o e => k it (by simp) o e
  item := by
    intro X hP hw hK hc i pins s σ H E I hf st hg
    subst hP hw hK
    obtain ⟨xs, x, hq, hx⟩ := hg
    obtain ⟨its, rv, p, hz⟩ := I.tuple hq
    obtain ⟨u, hu, ru⟩ := rv.get hx
    obtain ⟨f0, f1, f2, f3, f4, f5⟩ := hf it (by simp)
    refine wpAny_pyNext_tuple_item st (show s.heap.IsTuple a its.toArray from p) (x := u) (by simpa using hu) fun h' st' sb => ?_
    have I1 : Inv X pins σ H { s with heap := h' } := I.turned (t' := s.toks) (fun b o hb e => (sb.2 b hb).trans e) f0 f1 f3 f4 f5
    obtain ⟨o, e, c, d⟩ := id st'
    exact ⟨u, rfl, go_of (s := { s with heap := h' }) e c d (by decide) ⟨x, H, I1, ru, ⟨rfl, fun ys hy => by rw [I.tuple_inj hy hq]; exact hx⟩, st', fun b hb => (hf b hb).1⟩⟩
  done := by
    intro X hP hw hK hc i pins s σ H E I hf st hg
    subst hP hw hK
    obtain ⟨xs, hq, hx⟩ := hg
    obtain ⟨its, rv, p, hz⟩ := I.tuple hq
    obtain ⟨f0, f1, f2, f3, f4, f5⟩ := hf it (by simp)
    have hl := rv.length
    exact wpAny_pyNext_tuple_end (I.ok.hd hc) st (show s.heap.IsTuple a its.toArray from p) (by simp; omega) fun h' eb => ⟨rfl, I.turned (t' := s.toks) (fun b o hb e => eb b o hb e) f0 f1 f3 f4 f5⟩
  self := fun _ _ _ _ _ st h => wpAny_pyIter_tupleiter st h
theorem turn_range {P : Program} {w : World} {K : PySem.W.Frag} {tg : Expr} (it : Addr) (lo : Int) (n : Nat) : Turn P w K tg (Itr lo n) [it] it (fun i h => IsRangeIter h it (lo + (i : Nat) * 1) ((n : Int) - (i : Nat)) 1) where
  mem := by simp
  obj := fun i h st b hb => by
    have e : b = it := by simpa using hb
    subst e
    exact ⟨_, st, fun v z => by
      have z' : Data.fields _ = Data.cell v := z
      cases z'⟩
  keep := fun i h h' st k => k it (by simp) _ st
  item := by
    intro X hP hw hK hc i pins s σ H E I hf st hg
    subst hP hw hK
    obtain ⟨f0, f1, f2, f3, f4, f5⟩ := hf it (by simp)
    have W := Walks.range (prog := X.prog) (w := X.w) (I.ok.hd hc) it lo 1 n
    refine W.item i s _ _ hg st fun v h' tk hv st' kk => ?_
    obtain ⟨t, rfl⟩ := hv
    have I1 : Inv X pins σ H { s with heap := h', toks := tk } := I.turned (fun b o hb e => kk b o (by simpa using hb) e) f0 f1 f3 f4 f5
    refine ⟨_, rfl, go_of (s := { s with heap := h', toks := tk }) (n := "range_iterator") st' rfl rfl (by decide) ⟨.int (lo + i), H, I1, ⟨t, ?_⟩, ⟨rfl, rfl⟩, st', fun b hb => (hf b hb).1⟩⟩
    rw [Int.mul_one]
  done := by
    intro X hP hw hK hc i pins s σ H E I hf st hg
    subst hP hw hK
    obtain ⟨f0, f1, f2, f3, f4, f5⟩ := hf it (by simp)
    exact wpAny_pyNext_range_end (I.ok.hd hc) st (by have : n ≤ i := hg; omega) fun h' eb => ⟨rfl, I.turned (t' := s.toks) (fun b o hb e => eb b o hb e) f0 f1 f3 f4 f5⟩
  self := fun _ _ _ _ _ st h => wpAny_pyIter_rangeiter st h
end L2

namespace L2
open PySem PySem.Spec PyProof.Rows
section
variable {X : Cx} {tg : Expr}
def iList (K : PySem.W.Frag) (tl : TE) : TI := fun σ H R => tl σ H fun x H1 => ∃ a, x = .ref a ∧ (∃ xs, SqL K H1 a xs) ∧ R (Itl K a) H1
def iTup (K : PySem.W.Frag) (tl : TE) : TI := fun σ H R => tl σ H fun x H1 => ∃ a, x = .ref a ∧ (∃ xs, SqT K H1 a xs) ∧ R (Itt K a) H1
theorem pi_list {l : Expr} {tl : TE} (hl : PE X l tl) : PI X tg l (iList X.K tl) := by
  intro pins s σ H R I h
  refine thn (hl pins s σ H _ I h) fun v s1 ⟨x, H1, I1, r1, q1⟩ => ?_
  obtain ⟨a, e, ⟨xs, hq⟩, q⟩ := q1
  subst e
  cases r1
  obtain ⟨its, rv, p, hz⟩ := I1.list hq
  refine wpAny_pyIter_list p.isList ?_
  refine ⟨s1.heap.objs.size, [s1.heap.objs.size], _, _, H1, rfl, I1.kept (t' := s1.toks) fun b o e => Heap.get?_push_of_some _ e, turn_list a _, ⟨_, Heap.get?_push_size _ rfl, rfl, rfl⟩, fun b hb => ?_, q⟩
  have e : b = s1.heap.objs.size := by simpa using hb
  subst e
  exact I1.fpOk (Nat.le_refl _) (I1.hok.fresh (Nat.le_refl _))
theorem pi_tup {l : Expr} {tl : TE} (hl : PE X l tl) : PI X tg l (iTup X.K tl) := by
  intro pins s σ H R I h
  refine thn (hl pins s σ H _ I h) fun v s1 ⟨x, H1, I1, r1, q1⟩ => ?_
  obtain ⟨a, e, ⟨xs, hq⟩, q⟩ := q1
  subst e
  cases r1
  obtain ⟨its, rv, p, hz⟩ := I1.tuple hq
  refine wpAny_pyIter_tuple (show s1.heap.IsTuple a its.toArray from p) ?_
  refine ⟨s1.heap.objs.size, [s1.heap.objs.size], _, _, H1, rfl, I1.kept (t' := s1.toks) fun b o e => Heap.get?_push_of_some _ e, turn_tuple a _, ⟨_, Heap.get?_push_size _ rfl, rfl, rfl⟩, fun b hb => ?_, q⟩
  have e : b = s1.heap.objs.size := by simpa using hb
  subst e
  exact I1.fpOk (Nat.le_refl _) (I1.hok.fresh (Nat.le_refl _))
/-- a range object just made, walked -/
theorem range_it {pins : List (Addr × Obj)} {σ : St} {H : Hp} {s : Shared} {R : It → Hp → Prop} {E : Value → Shared → Prop} {lo hi : Int} {t u v : Tok} {tk : Nat} (I : Inv X pins σ H s) (h1 : -(2 ^ 62) ≤ lo) (h2 : lo < 2 ^ 62) (h3 : -(2 ^ 62) ≤ hi) (h4 : hi < 2 ^ 62)
    (q : R (Itr lo (hi - lo).toNat) H) : wpAny (model X.prog X.w) X.A (pyIter (.ref s.heap.objs.size)) (PIE X pins σ tg R) E { s with heap := s.heap.push { cls := .type "range", data := .fields #[.int lo t, .int hi u, .int 1 v] }, toks := tk } := by
  refine wpAny_pyIter_range (IsRange.new ..) (small_one h1 h2 h3 h4) ?_
  have I1 : Inv X pins σ H { s with heap := s.heap.push { cls := .type "range", data := .fields #[.int lo t, .int hi u, .int 1 v] }, toks := tk } := I.kept fun b o e => Heap.get?_push_of_some _ e
  refine ⟨(s.heap.push { cls := .type "range", data := .fields #[.int lo t, .int hi u, .int 1 v] }).objs.size, [(s.heap.push { cls := .type "range", data := .fields #[.int lo t, .int hi u, .int 1 v] }).objs.size], _, _, H, rfl,
    I1.kept (t' := tk) fun b o e => Heap.get?_push_of_some _ e, turn_range _ lo (hi - lo).toNat, ?_, fun b hb => ?_, q⟩
  · have e1 : lo + ((0 : Nat) : Int) * 1 = lo := by simp
    have e2 : (((hi - lo).toNat : Nat) : Int) - ((0 : Nat) : Int) = Builtin.Range.rangeSize lo hi 1 := by rw [rangeSize_one]; split <;> omega
    show IsRangeIter _ _ (lo + ((0 : Nat) : Int) * 1) ((((hi - lo).toNat : Nat) : Int) - ((0 : Nat) : Int)) 1
    rw [e1, e2]
    exact Heap.get?_push_size _ rfl
  · have e : b = (s.heap.push { cls := .type "range", data := .fields #[.int lo t, .int hi u, .int 1 v] }).objs.size := by simpa using hb
    subst e
    exact I1.fpOk (Nat.le_refl _) (I1.hok.fresh (Nat.le_refl _))
def iRng1 (ta : TA) : TI := fun σ H R => ta σ H fun vs H1 => ∃ j : Int, vs = [.int j] ∧ -(2 ^ 62) ≤ j ∧ j < 2 ^ 62 ∧ R (Itr 0 j.toNat) H1
def iRng2 (ta : TA) : TI := fun σ H R => ta σ H fun vs H1 => ∃ i j : Int, vs = [.int i, .int j] ∧ (-(2 ^ 62) ≤ i ∧ i < 2 ^ 62 ∧ -(2 ^ 62) ≤ j ∧ j < 2 ^ 62) ∧ R (Itr i (j - i).toNat) H1
theorem pi_range1 {a : Expr} {ta : TA} {p pos : Pos} (hg : Gl X "range") (hm : X.mg "range" = none) (ha : PA X [a] ta) (hs : starEach [a] X.env = [(false, eval a X.env)] := by rfl) : PI X tg (.Call (.Name "range" p) [a] [] pos) (iRng1 ta) := by
  intro pins s σ H R I h
  refine Call_ (ld_blt I hg hm boot_range (PyProof.Rows.callWith_type1 (thn (ha pos pins s σ H _ I h) fun us s1 ⟨vs, H1, I1, r1, q1⟩ => ?_) hs rfl))
  obtain ⟨j, e, q1, q2, q⟩ := q1
  subst e
  cases r1 with
  | cons r rr =>
    cases rr
    obtain ⟨t, rfl⟩ := r
    exact call_range_1 (range_it I1 (by omega) (by omega) q1 q2 (by simpa using q))
/-! ### for -/
/-- W: the invariant by the turn and a measure; N: what the body is to reach -/
def tFor (wi : TI) (g : TG) (tb : TS) : TS := fun D σ H => wi σ H fun J H1 => ∃ W : Nat → Nat → St → Hp → Prop, (∃ m, W 0 m σ H1) ∧ ∀ i m σ H, W i m σ H →
  (J.stop i H ∧ D.nx σ H) ∨ (J.go i H ∧ ∃ N : St → Hp → Prop, (∀ σ' H', N σ' H' → ∃ m', m' < m ∧ W (i + 1) m' σ' H') ∧ ∀ x H', J.yld i H x H' → g x σ H' fun σ2 H2 => tb { D with nx := N, ct := N, bk := D.nx } σ2 H2)
/-- the records at fp as they stand -/
def pinsAt (fp : List Addr) (h : Heap) : List (Addr × Obj) := fp.filterMap fun b => (h.get? b).map fun o => (b, o)
theorem mem_pinsAt {fp : List Addr} {h : Heap} {b : Addr} {o : Obj} (hb : b ∈ fp) (e : h.get? b = some o) : (b, o) ∈ pinsAt fp h := List.mem_filterMap.mpr ⟨b, hb, by rw [e]; rfl⟩
theorem of_pinsAt {fp : List Addr} {h : Heap} {p : Addr × Obj} (hp : p ∈ pinsAt fp h) : p.1 ∈ fp ∧ h.get? p.1 = some p.2 := by
  obtain ⟨b, hb, e⟩ := List.mem_filterMap.mp hp
  cases q : h.get? b with
  | none => rw [q] at e; cases e
  | some o =>
    rw [q] at e
    have e' : (b, o) = p := Option.some.inj e
    subst e'
    exact ⟨hb, q⟩
theorem Inv.pinned {pins : List (Addr × Obj)} {σ : St} {H : Hp} {s : Shared} {fp : List Addr} (I : Inv X pins σ H s) (hf : ∀ b ∈ fp, FpOk X pins H b) (ho : ∀ b ∈ fp, ∃ o, s.heap.get? b = some o ∧ ∀ v, o.data ≠ .cell v) : Inv X (pins ++ pinsAt fp s.heap) σ H s :=
  I.pins_of fun p hp => (List.mem_append.mp hp).elim (fun z => I.pin p (List.mem_append_right _ z)) fun z => by
    obtain ⟨hb, e⟩ := of_pinsAt z
    obtain ⟨f0, f1, f2, _⟩ := hf p.1 hb
    obtain ⟨o, e', d⟩ := ho p.1 hb
    rw [e] at e'; cases e'
    exact ⟨e, f0, f1, f2, d⟩
theorem Inv.unpinned {pins pl : List (Addr × Obj)} {σ : St} {H : Hp} {s : Shared} (I : Inv X (pins ++ pl) σ H s) : Inv X pins σ H s := I.pins_of fun p hp => I.pin p (List.mem_append_right _ (List.mem_append_left _ hp))
theorem ps_for {iter : Expr} {body : List Stmt} {wi : TI} {g : TG} {tb : TS} {pos : Pos} (hp : PassesOwn (model X.prog X.w) X.A X.env X.xe) (hc : X.calm = true) (hi : PI X tg iter wi) (hg : PG X tg g) (hb : PSs X body tb)
    (hs : ∀ x, foldedSetIterable iter X.env x = pure x := by intro _; rfl) : PS X (.For tg iter body [] pos) (tFor wi g tb) := by
  intro pins s σ H D I h
  refine wpAny_For (thn (hi pins s σ H _ I h) fun v s1 h1 => thn h1 fun itv s2 h2 => ?_) hs
  obtain ⟨it, fp, tn, J, H2, e, I2, T, st2, f2, W, ⟨m0, w0⟩, turn⟩ := h2
  subst e
  -- what stays true of the iterator's objects through the loop
  have stat : ∀ {H' : Hp}, (∀ b ∈ fp, H' b = none) → ∀ b ∈ fp, FpOk X pins H' b := fun hn b hb => ⟨hn b hb, (f2 b hb).2⟩
  refine codeAny_forLoop_any (fun n s' => ∃ i σ' H', Inv X pins σ' H' s' ∧ tn i s'.heap ∧ (∀ b ∈ fp, H' b = none) ∧ W i n σ' H') ?_ m0 ⟨0, σ, H2, I2, st2, fun b hb => (f2 b hb).1, w0⟩
  rintro n s3 ⟨i, σ3, H3, I3, st3, fr3, w3⟩
  rcases turn i n σ3 H3 w3 with ⟨stop, qn⟩ | ⟨go, N, hN, step⟩
  · refine wpAny_passesOwn hp (thn (T.done X rfl rfl rfl hc i pins s3 σ3 H3 X.xe I3 (stat fr3) st3 stop) fun r s4 ⟨hr, I4⟩ => ?_)
    subst hr
    exact wpAny_execs_nil ⟨σ3, H3, I4, qn⟩
  · refine wpAny_passesOwn hp (thn (T.item X rfl rfl rfl hc i pins s3 σ3 H3 X.xe I3 (stat fr3) st3 go) fun r s4 ⟨u, hr, h4⟩ => ?_)
    subst hr
    refine wpAny_passesOwn hp (thn h4 fun _ s5 ⟨x, H5, I5, r5, y5, st5, fr5⟩ => ?_)
    have I5' := I5.pinned (stat fr5) (T.obj _ _ st5)
    refine wpAny_passesOwn hp (thn (hg _ s5 σ3 H5 x u _ I5' r5 (step x H5 y5)) fun _ s6 ⟨σ6, H6, I6, q6⟩ => ?_)
    refine wpAny_passesOwn hp (thn (hb _ s6 σ6 H6 _ I6 q6) fun f s7 q7 => ?_)
    have again : ∀ {σ7 : St} {H7 : Hp}, Inv X (pins ++ pinsAt fp s5.heap) σ7 H7 s7 → N σ7 H7 → ∃ m, m < n ∧ ∃ i σ' H', Inv X pins σ' H' s7 ∧ tn i s7.heap ∧ (∀ b ∈ fp, H' b = none) ∧ W i m σ' H' := fun {σ7 H7} I7 n7 => by
      obtain ⟨m', hm, w7⟩ := hN σ7 H7 n7
      refine ⟨m', hm, i + 1, σ7, H7, I7.unpinned, T.keep _ _ _ st5 fun b hb o e => (I7.pin (b, o) (List.mem_append_right _ (List.mem_append_right _ (mem_pinsAt hb e)))).1, fun b hb => ?_, w7⟩
      obtain ⟨o, e, d⟩ := T.obj _ _ st5 b hb
      exact (I7.pin (b, o) (List.mem_append_right _ (List.mem_append_right _ (mem_pinsAt hb e)))).2.1
    cases f with
    | next => obtain ⟨σ7, H7, I7, n7⟩ := q7; exact again I7 n7
    | cont => obtain ⟨σ7, H7, I7, n7⟩ := q7; exact again I7 n7
    | brk => obtain ⟨σ7, H7, I7, q7⟩ := q7; exact ⟨σ7, H7, I7.unpinned, q7⟩
    | ret v => obtain ⟨x7, σ7, H7, I7, r7, q7⟩ := q7; exact ⟨x7, σ7, H7, I7.unpinned, r7, q7⟩
end

/-! ### the forms one uses -/
/-- over a list that the body leaves as it is -/
theorem for_list {K : PySem.W.Frag} {a : Addr} {xs : List V} {g : TG} {tb : TS} {D : Ends} {σ : St} {H : Hp} (Pv : Nat → St → Hp → Prop) (h0 : Pv 0 σ H) (hl : ∀ i σ H, i ≤ xs.length → Pv i σ H → SqL K H a xs)
    (hs : ∀ i x σ H, xs[i]? = some x → Pv i σ H → g x σ H fun σ2 H2 => tb { D with nx := Pv (i + 1), ct := Pv (i + 1), bk := D.nx } σ2 H2) (hd : ∀ σ H, Pv xs.length σ H → D.nx σ H) :
    ∃ W : Nat → Nat → St → Hp → Prop, (∃ m, W 0 m σ H) ∧ ∀ i m σ H, W i m σ H →
      ((Itl K a).stop i H ∧ D.nx σ H) ∨ ((Itl K a).go i H ∧ ∃ N : St → Hp → Prop, (∀ σ' H', N σ' H' → ∃ m', m' < m ∧ W (i + 1) m' σ' H') ∧ ∀ x H', (Itl K a).yld i H x H' → g x σ H' fun σ2 H2 => tb { D with nx := N, ct := N, bk := D.nx } σ2 H2) := by
  refine ⟨fun i m σ H => m = xs.length - i ∧ i ≤ xs.length ∧ Pv i σ H, ⟨xs.length, by simp, Nat.zero_le _, h0⟩, ?_⟩
  rintro i m σ H ⟨rfl, hi, p⟩
  have q := hl i σ H hi p
  by_cases hlt : i < xs.length
  · refine .inr ⟨⟨xs, xs[i], q, by simp [hlt]⟩, Pv (i + 1), fun σ' H' p' => ⟨xs.length - (i + 1), by omega, rfl, hlt, p'⟩, fun x H' y => ?_⟩
    obtain ⟨e, y⟩ := y
    subst e
    exact hs i x σ _ (y xs q) p
  · have e : i = xs.length := by omega
    subst e
    exact .inl ⟨⟨xs, q, Nat.le_refl _⟩, hd σ H p⟩
theorem for_tup {K : PySem.W.Frag} {a : Addr} {xs : List V} {g : TG} {tb : TS} {D : Ends} {σ : St} {H : Hp} (Pv : Nat → St → Hp → Prop) (h0 : Pv 0 σ H) (hl : ∀ i σ H, i ≤ xs.length → Pv i σ H → SqT K H a xs)
    (hs : ∀ i x σ H, xs[i]? = some x → Pv i σ H → g x σ H fun σ2 H2 => tb { D with nx := Pv (i + 1), ct := Pv (i + 1), bk := D.nx } σ2 H2) (hd : ∀ σ H, Pv xs.length σ H → D.nx σ H) :
    ∃ W : Nat → Nat → St → Hp → Prop, (∃ m, W 0 m σ H) ∧ ∀ i m σ H, W i m σ H →
      ((Itt K a).stop i H ∧ D.nx σ H) ∨ ((Itt K a).go i H ∧ ∃ N : St → Hp → Prop, (∀ σ' H', N σ' H' → ∃ m', m' < m ∧ W (i + 1) m' σ' H') ∧ ∀ x H', (Itt K a).yld i H x H' → g x σ H' fun σ2 H2 => tb { D with nx := N, ct := N, bk := D.nx } σ2 H2) := by
  refine ⟨fun i m σ H => m = xs.length - i ∧ i ≤ xs.length ∧ Pv i σ H, ⟨xs.length, by simp, Nat.zero_le _, h0⟩, ?_⟩
  rintro i m σ H ⟨rfl, hi, p⟩
  have q := hl i σ H hi p
  by_cases hlt : i < xs.length
  · refine .inr ⟨⟨xs, xs[i], q, by simp [hlt]⟩, Pv (i + 1), fun σ' H' p' => ⟨xs.length - (i + 1), by omega, rfl, hlt, p'⟩, fun x H' y => ?_⟩
    obtain ⟨e, y⟩ := y
    subst e
    exact hs i x σ _ (y xs q) p
  · have e : i = xs.length := by omega
    subst e
    exact .inl ⟨⟨xs, q, Nat.le_refl _⟩, hd σ H p⟩
theorem for_range {lo : Int} {n : Nat} {g : TG} {tb : TS} {D : Ends} {σ : St} {H : Hp} (Pv : Nat → St → Hp → Prop) (h0 : Pv 0 σ H)
    (hs : ∀ i σ H, i < n → Pv i σ H → g (.int (lo + i)) σ H fun σ2 H2 => tb { D with nx := Pv (i + 1), ct := Pv (i + 1), bk := D.nx } σ2 H2) (hd : ∀ σ H, Pv n σ H → D.nx σ H) :
    ∃ W : Nat → Nat → St → Hp → Prop, (∃ m, W 0 m σ H) ∧ ∀ i m σ H, W i m σ H →
      ((Itr lo n).stop i H ∧ D.nx σ H) ∨ ((Itr lo n).go i H ∧ ∃ N : St → Hp → Prop, (∀ σ' H', N σ' H' → ∃ m', m' < m ∧ W (i + 1) m' σ' H') ∧ ∀ x H', (Itr lo n).yld i H x H' → g x σ H' fun σ2 H2 => tb { D with nx := N, ct := N, bk := D.nx } σ2 H2) := by
  refine ⟨fun i m σ H => m = n - i ∧ i ≤ n ∧ Pv i σ H, ⟨n, by simp, Nat.zero_le _, h0⟩, ?_⟩
  rintro i m σ H ⟨rfl, hi, p⟩
  by_cases hlt : i < n
  · refine .inr ⟨hlt, Pv (i + 1), fun σ' H' p' => ⟨n - (i + 1), by omega, rfl, hlt, p'⟩, fun x H' y => ?_⟩
    obtain ⟨e, y⟩ := y
    subst e y
    exact hs i σ _ hlt p
  · have e : i = n := by omega
    subst e
    exact .inl ⟨Nat.le_refl _, hd σ H p⟩
end L2

namespace L2
open PySem PySem.Spec PyProof.Rows

abbrev R2 := V → V → Hp → VK → Prop
/-- a two-place operation on values: f is binaryOp op, inplaceOp op or compareOp op -/
def OpR (X : Cx) (f : Value → Value → Sem Value) (r : R2) : Prop :=
  ∀ (pins : List (Addr × Obj)) (s : Shared) (σ : St) (H : Hp) (x y : V) (v u : Value) (Q : VK), Inv X pins σ H s → RelV x v → RelV y u → r x y H Q →
    wpAny (model X.prog X.w) X.A (f v u) (EP X pins σ Q) X.xe s
/-- a one-place operation -/
def UnR (X : Cx) (f : Value → Sem Value) (r : V → Hp → VK → Prop) : Prop :=
  ∀ (pins : List (Addr × Obj)) (s : Shared) (σ : St) (H : Hp) (x : V) (v : Value) (Q : VK), Inv X pins σ H s → RelV x v → r x H Q →
    wpAny (model X.prog X.w) X.A (f v) (EP X pins σ Q) X.xe s
/-- a call of a value that is known (a builtin, a type) with values -/
def CallR (X : Cx) (f : Value) (r : List V → Hp → VK → Prop) : Prop :=
  ∀ (pins : List (Addr × Obj)) (s : Shared) (σ : St) (H : Hp) (xs : List V) (us : List Value) (Q : VK), Inv X pins σ H s → Vals xs us → r xs H Q →
    wpAny (model X.prog X.w) X.A (call f us) (EP X pins σ Q) X.xe s
/-- a value's truth -/
def TruR (X : Cx) (r : V → Hp → (Bool → Hp → Prop) → Prop) : Prop :=
  ∀ (pins : List (Addr × Obj)) (s : Shared) (σ : St) (H : Hp) (x : V) (v : Value) (Q : Bool → Hp → Prop), Inv X pins σ H s → RelV x v → r x H Q →
    wpAny (model X.prog X.w) X.A (truthy v) (TP X pins σ Q) X.xe s

def tOp (r : R2) (ta tb : TE) : TE := fun σ H Q => ta σ H fun x H1 => tb σ H1 fun y H2 => r x y H2 Q
def tUn (r : V → Hp → VK → Prop) (ta : TE) : TE := fun σ H Q => ta σ H fun x H1 => r x H1 Q
/-- ints in, under C, and a value out -/
def rI (C : Int → Int → Prop) (g : Int → Int → V) : R2 := fun x y H Q => ∃ i j, x = .int i ∧ y = .int j ∧ C i j ∧ Q (g i j) H
def rI0 (g : Int → Int → V) : R2 := fun x y H Q => ∃ i j, x = .int i ∧ y = .int j ∧ Q (g i j) H
def rU (g : Int → V) : V → Hp → VK → Prop := fun x H Q => ∃ i, x = .int i ∧ Q (g i) H

section
variable {X : Cx} {a b c : Expr} {ta tb tc : TE} {pos : Pos}

theorem binT (ha : PE X a ta) (hb : PE X b tb) {pins : List (Addr × Obj)} {s : Shared} {σ : St} {H : Hp} {R : V → V → Hp → Prop} (I : Inv X pins σ H s)
    (h : ta σ H fun x H1 => tb σ H1 fun y H2 => R x y H2) {Q : Value → Shared → Prop} {f : Value → Value → Sem Value}
    (hf : ∀ v u s2 x y H2, Inv X pins σ H2 s2 → RelV x v → RelV y u → R x y H2 → wpAny (model X.prog X.w) X.A (f v u) Q X.xe s2) :
    wpAny (model X.prog X.w) X.A (eval a X.env) (fun v s₁ => wpAny (model X.prog X.w) X.A (eval b X.env) (fun u s₂ => wpAny (model X.prog X.w) X.A (f v u) Q X.xe s₂) X.xe s₁) X.xe s := by
  refine thn (ha pins s σ H _ I h) fun v s1 ⟨x, H1, I1, r1, q1⟩ => ?_
  refine thn (hb pins s1 σ H1 _ I1 q1) fun u s2 ⟨y, H2, I2, r2, q2⟩ => ?_
  exact hf v u s2 x y H2 I2 r1 r2 q2

theorem pe_op {op : Operator} {r : R2} (ho : OpR X (binaryOp op) r) (ha : PE X a ta) (hb : PE X b tb) : PE X (.BinOp a op b pos) (tOp r ta tb) := by
  intro pins s σ H Q I h
  exact wpAny_BinOp (binT ha hb I h fun v u s2 x y H2 I2 rx ry q => ho pins s2 σ H2 x y v u Q I2 rx ry q)
/-! ### ints -/
theorem opI {f : Value → Value → Sem Value} {C : Int → Int → Prop} {g : Int → Int → Int}
    (rule : ∀ (i j : Int) (t u : Tok) (s : Shared) (Q : Value → Shared → Prop) (E : Value → Shared → Prop), C i j → Q (.int (g i j) s.toks) { s with toks := s.toks + 1 } → wpAny (model X.prog X.w) X.A (f (.int i t) (.int j u)) Q E s) :
    OpR X f (rI C fun i j => .int (g i j)) := by
  intro pins s σ H x y v u Q I rx ry h
  obtain ⟨i, j, rfl, rfl, hc, q⟩ := h
  obtain ⟨t, rfl⟩ := rx
  obtain ⟨t', rfl⟩ := ry
  exact rule i j t t' s _ _ hc ⟨.int (g i j), H, I.tok _, ⟨_, rfl⟩, q⟩
theorem opI0 {f : Value → Value → Sem Value} {g : Int → Int → Int}
    (rule : ∀ (i j : Int) (t u : Tok) (s : Shared) (Q : Value → Shared → Prop) (E : Value → Shared → Prop), Q (.int (g i j) s.toks) { s with toks := s.toks + 1 } → wpAny (model X.prog X.w) X.A (f (.int i t) (.int j u)) Q E s) :
    OpR X f (rI0 fun i j => .int (g i j)) := by
  intro pins s σ H x y v u Q I rx ry h
  obtain ⟨i, j, rfl, rfl, q⟩ := h
  obtain ⟨t, rfl⟩ := rx
  obtain ⟨t', rfl⟩ := ry
  exact rule i j t t' s _ _ ⟨.int (g i j), H, I.tok _, ⟨_, rfl⟩, q⟩
theorem opB0 {f : Value → Value → Sem Value} {g : Int → Int → Bool}
    (rule : ∀ (i j : Int) (t u : Tok) (s : Shared) (Q : Value → Shared → Prop) (E : Value → Shared → Prop), Q (.bool (g i j)) s → wpAny (model X.prog X.w) X.A (f (.int i t) (.int j u)) Q E s) :
    OpR X f (rI0 fun i j => .bl (g i j)) := by
  intro pins s σ H x y v u Q I rx ry h
  obtain ⟨i, j, rfl, rfl, q⟩ := h
  obtain ⟨t, rfl⟩ := rx
  obtain ⟨t', rfl⟩ := ry
  exact rule i j t t' s _ _ ⟨.bl (g i j), H, I, rfl, q⟩

def CDiv (i j : Int) : Prop := 0 < j ∧ j < 1073741824
def CDivN (i j : Int) : Prop := j ≠ 0 ∧ j.natAbs < 1073741824
def CPow (i j : Int) : Prop := 0 ≤ j ∧ j ≤ 1000000 ∧ i.natAbs < 2 ^ 64
def CMul (i j : Int) : Prop := (-(2 ^ 64) < i ∧ i < 2 ^ 64) ∨ (-(2 ^ 64) < j ∧ j < 2 ^ 64)
theorem CMul.ok {i j : Int} (h : CMul i j) : IntMulOk i j := by
  rcases h with ⟨h1, h2⟩ | ⟨h1, h2⟩
  · exact .of_left (intBits_le_64 h1 h2)
  · exact .of_right (intBits_le_64 h1 h2)
theorem op_add : OpR X (binaryOp .Add) (rI0 fun i j => .int (i + j)) := opI0 fun _ _ _ _ _ _ _ q => add_int q
theorem op_sub : OpR X (binaryOp .Sub) (rI0 fun i j => .int (i - j)) := opI0 fun _ _ _ _ _ _ _ q => sub_int q
theorem op_mul : OpR X (binaryOp .Mult) (rI CMul fun i j => .int (i * j)) := opI fun _ _ _ _ _ _ _ hc q => mul_int q hc.ok
/-- // by a positive divisor -/
theorem op_fdiv : OpR X (binaryOp .FloorDiv) (rI CDiv fun i j => .int (i / j)) := opI fun i j _ _ _ _ _ hc q => by
  have h1 : (0 : Int) < j := hc.1
  have h2 : j < 1073741824 := hc.2
  exact floordiv_int (by omega) (by rw [Int.fdiv_eq_ediv_of_nonneg i (by omega)]; exact q) (.inl (PyProof.noPylong_small (by omega)))
/-- % by a positive divisor of any size -/
theorem op_mod : OpR X (binaryOp .Mod) (rI (fun _ j => 0 < j) fun i j => .int (i % j)) := opI fun i j _ _ _ _ _ hc q => by
  have h1 : (0 : Int) < j := hc
  exact mod_int' (by omega) (by rw [Int.fmod_eq_emod_of_nonneg i (by omega)]; exact q)
theorem op_pow : OpR X (binaryOp .Pow) (rI CPow fun i j => .int (i ^ j.toNat)) := opI fun _ _ _ _ _ _ _ hc q => pow_int_small hc.1 hc.2.1 hc.2.2 q
/-! ### bools among ints: n += (a < b) -/
end

/-! ### comparisons -/
/-- the scalars that == tells apart as data does -/
def scal : V → V → Bool
  | .non, .non => true | .non, .int _ => true | .int _, .non => true | .non, .bl _ => true | .bl _, .non => true | .non, .str _ => true | .str _, .non => true
  | .int _, .int _ => true | .bl _, .bl _ => true | .str _, .str _ => true | .byt _, .byt _ => true
  | .int _, .str _ => true | .str _, .int _ => true | .bl _, .str _ => true | .str _, .bl _ => true
  | _, _ => false
def rEq : R2 := fun x y H Q => scal x y = true ∧ Q (.bl (decide (x = y))) H
def rNe : R2 := fun x y H Q => scal x y = true ∧ Q (.bl (!decide (x = y))) H

theorem dec_int {i j : Int} : decide (V.int i = V.int j) = (i == j) := by
  rw [Bool.eq_iff_iff]
  simp
theorem dec_bl {i j : Bool} : decide (V.bl i = V.bl j) = (i == j) := by
  rw [Bool.eq_iff_iff]
  simp
theorem dec_str {i j : Str} : decide (V.str i = V.str j) = (i == j) := by
  rw [Bool.eq_iff_iff]
  simp
theorem dec_byt {i j : Array UInt8} : decide (V.byt i = V.byt j) = (i.toList == j.toList) := by
  rw [Bool.eq_iff_iff]
  cases i
  cases j
  simp

section
variable {X : Cx} {a b c : Expr} {ta tb tc : TE} {pos : Pos}
theorem fin_bl {pins : List (Addr × Obj)} {σ : St} {H : Hp} {s : Shared} {Q : VK} {k k' : Bool} (I : Inv X pins σ H s) (q : Q (.bl k) H) (e : k = k') : EP X pins σ Q (.bool k') s := by
  subst e
  exact ⟨.bl k, H, I, rfl, q⟩
theorem op_eq : OpR X (compareOp .Eq) rEq := by
  intro pins s σ H x y v u Q I rx ry h
  obtain ⟨hs, q⟩ := h
  cases x with
  | non =>
    cases rx
    cases y with
    | non => cases ry; exact PySem.EqNone.eq_none_none (fin_bl I q (by simp))
    | bl j => cases ry; exact PySem.EqNone.eq_none_bool (fin_bl I q (by simp))
    | int j => obtain ⟨t', rfl⟩ := ry; exact PySem.EqNone.eq_none_int (fin_bl I q (by simp))
    | str j => obtain ⟨t', rfl⟩ := ry; exact PySem.EqNone.eq_none_str (fin_bl I q (by simp))
    | _ => exact absurd (show false = true from hs) Bool.false_ne_true
  | bl i =>
    cases rx
    cases y with
    | non => cases ry; exact PySem.EqNone.eq_bool_none (fin_bl I q (by simp))
    | bl j => cases ry; exact eq_bool (fin_bl I q dec_bl)
    | str j => obtain ⟨t', rfl⟩ := ry; exact PySem.EqMixed.eq_bool_str (fin_bl I q (by simp))
    | _ => exact absurd (show false = true from hs) Bool.false_ne_true
  | int i =>
    obtain ⟨t, rfl⟩ := rx
    cases y with
    | non => cases ry; exact PySem.EqNone.eq_int_none (fin_bl I q (by simp))
    | int j => obtain ⟨t', rfl⟩ := ry; exact eq_int (fin_bl I q dec_int)
    | str j => obtain ⟨t', rfl⟩ := ry; exact PySem.EqMixed.eq_int_str (fin_bl I q (by simp))
    | _ => exact absurd (show false = true from hs) Bool.false_ne_true
  | str i =>
    obtain ⟨t, rfl⟩ := rx
    cases y with
    | non => cases ry; exact PySem.EqNone.eq_str_none (fin_bl I q (by simp))
    | bl j => cases ry; exact PySem.EqMixed.eq_str_bool (fin_bl I q (by simp))
    | int j => obtain ⟨t', rfl⟩ := ry; exact PySem.EqMixed.eq_str_int (fin_bl I q (by simp))
    | str j => obtain ⟨t', rfl⟩ := ry; exact eq_str (fin_bl I q dec_str)
    | _ => exact absurd (show false = true from hs) Bool.false_ne_true
  | byt i =>
    obtain ⟨t, rfl⟩ := rx
    cases y with
    | byt j => obtain ⟨t', rfl⟩ := ry; exact PySem.W.eq_bytes (fin_bl I q dec_byt)
    | _ => exact absurd (show false = true from hs) Bool.false_ne_true
  | _ => cases y <;> exact absurd (show false = true from hs) Bool.false_ne_true
theorem op_ne : OpR X (compareOp .NotEq) rNe := by
  intro pins s σ H x y v u Q I rx ry h
  obtain ⟨hs, q⟩ := h
  cases x with
  | non =>
    cases rx
    cases y with
    | non => cases ry; exact PySem.EqNone.ne_none_none (fin_bl I q (by simp))
    | bl j => cases ry; exact PySem.EqNone.ne_none_bool (fin_bl I q (by simp))
    | int j => obtain ⟨t', rfl⟩ := ry; exact PySem.EqNone.ne_none_int (fin_bl I q (by simp))
    | str j => obtain ⟨t', rfl⟩ := ry; exact PySem.EqNone.ne_none_str (fin_bl I q (by simp))
    | _ => exact absurd (show false = true from hs) Bool.false_ne_true
  | bl i =>
    cases rx
    cases y with
    | non => cases ry; exact PySem.EqNone.ne_bool_none (fin_bl I q (by simp))
    | bl j => cases ry; exact ne_bool (fin_bl I q (congrArg not dec_bl))
    | str j => obtain ⟨t', rfl⟩ := ry; exact PySem.EqMixed.ne_bool_str (fin_bl I q (by simp))
    | _ => exact absurd (show false = true from hs) Bool.false_ne_true
  | int i =>
    obtain ⟨t, rfl⟩ := rx
    cases y with
    | non => cases ry; exact PySem.EqNone.ne_int_none (fin_bl I q (by simp))
    | int j => obtain ⟨t', rfl⟩ := ry; exact ne_int (fin_bl I q (congrArg not dec_int))
    | str j => obtain ⟨t', rfl⟩ := ry; exact PySem.EqMixed.ne_int_str (fin_bl I q (by simp))
    | _ => exact absurd (show false = true from hs) Bool.false_ne_true
  | str i =>
    obtain ⟨t, rfl⟩ := rx
    cases y with
    | non => cases ry; exact PySem.EqNone.ne_str_none (fin_bl I q (by simp))
    | bl j => cases ry; exact PySem.EqMixed.ne_str_bool (fin_bl I q (by simp))
    | int j => obtain ⟨t', rfl⟩ := ry; exact PySem.EqMixed.ne_str_int (fin_bl I q (by simp))
    | str j => obtain ⟨t', rfl⟩ := ry; exact ne_str (fin_bl I q (congrArg not dec_str))
    | _ => exact absurd (show false = true from hs) Bool.false_ne_true
  | byt i =>
    obtain ⟨t, rfl⟩ := rx
    cases y with
    | byt j => obtain ⟨t', rfl⟩ := ry; exact PySem.W.ne_bytes (fin_bl I q (congrArg not dec_byt))
    | _ => exact absurd (show false = true from hs) Bool.false_ne_true
  | _ => cases y <;> exact absurd (show false = true from hs) Bool.false_ne_true

theorem op_lt : OpR X (compareOp .Lt) (rI0 fun i j => .bl (decide (i < j))) := opB0 fun _ _ _ _ _ _ _ q => lt_int q
theorem op_le : OpR X (compareOp .LtE) (rI0 fun i j => .bl (decide (i ≤ j))) := opB0 fun _ _ _ _ _ _ _ q => le_int q
theorem op_gt : OpR X (compareOp .Gt) (rI0 fun i j => .bl (decide (j < i))) := opB0 fun _ _ _ _ _ _ _ q => gt_int q
/-- the one string within the other -/
theorem op_in_str : OpR X (compareOp .In) (fun x y H Q => ∃ i j, x = .str i ∧ y = .str j ∧ Q (.bl (!(Builtin.Str.occurrences j i 0 j.length 1).isEmpty)) H) := by
  intro pins s σ H x y v u Q I rx ry h
  obtain ⟨i, j, rfl, rfl, q⟩ := h
  obtain ⟨t, rfl⟩ := rx
  obtain ⟨t', rfl⟩ := ry
  exact in_str (fin_bl I q rfl)

/-- is None, is not None: the right side a value none -/
theorem op_notN : OpR X (compareOp .IsNot) (fun x y H Q => y = .non ∧ Q (.bl (!decide (x = .non))) H) := by
  intro pins s σ H x y v u Q I rx ry h
  obtain ⟨rfl, q⟩ := h
  cases ry
  refine isnot_none_gen (fin_bl I q ?_)
  cases x <;> first
    | (cases rx; rfl)
    | (obtain ⟨t, rfl⟩ := rx; rfl)

/-- is, is not of two objects that are tracked lists or instances -/
def isObj : HO → Bool
  | .lst _ => true
  | .ins _ _ _ => true
  | _ => false
/-- two rules for one operation: by cases -/
theorem OpR.or {f : Value → Value → Sem Value} {r r' : R2} (h : OpR X f r) (h' : OpR X f r') : OpR X f (fun x y H Q => r x y H Q ∨ r' x y H Q) := by
  intro pins s σ H x y v u Q I rx ry q
  rcases q with q | q
  · exact h pins s σ H x y v u Q I rx ry q
  · exact h' pins s σ H x y v u Q I rx ry q

theorem nomark (b : Expr) {op : CmpOp} (h : op ≠ .In := by decide) (h2 : op ≠ .NotIn := by decide) : behindInMarks op b = false := by
  have e1 : (op == CmpOp.In) = false := by cases op <;> first | rfl | exact absurd rfl h
  have e2 : (op == CmpOp.NotIn) = false := by cases op <;> first | rfl | exact absurd rfl h2
  cases b <;> simp [behindInMarks, e1, e2]
/-- a comparison as a value; hm: nomark b, or (for in, not in) by with_unfolding_all rfl -/
theorem pe_cmpR {op : CmpOp} {r : R2} (ho : OpR X (compareOp op) r) (ha : PE X a ta) (hb : PE X b tb) (hm : behindInMarks op b = false) : PE X (.Compare a [op] [b] pos) (tOp r ta tb) := by
  intro pins s σ H Q I h
  exact wpAny_Compare1 (binT ha hb I h fun v u s2 x y H2 I2 rx ry q => ho pins s2 σ H2 x y v u Q I2 rx ry q) hm
/-- a reading of a value as a test -/
def tTest (t : TE) : TT := fun σ H Q => t σ H fun x H' => ∃ k, x = .bl k ∧ Q k H'
theorem pt_cmpR {op : CmpOp} {r : R2} (ho : OpR X (compareOp op) r) (ha : PE X a ta) (hb : PE X b tb) (hm : behindInMarks op b = false) : PT X (.Compare a [op] [b] pos) (tTest (tOp r ta tb)) := by
  intro pins s σ H Q I h
  refine wpAny_isTrue_Compare1 (thn (ha pins s σ H _ I h) fun v s1 ⟨x, H1, I1, r1, q1⟩ => thn (hb pins s1 σ H1 _ I1 q1) fun u s2 ⟨y, H2, I2, r2, q2⟩ =>
    thn (ho pins s2 σ H2 x y v u _ I2 r1 r2 q2) fun c s3 ⟨z, H3, I3, r3, k, e, q3⟩ => ?_) hm
  subst e
  cases r3
  exact wpAny_truthy_bool ⟨H3, I3, q3⟩
/-- a op1 b op2 c -/
def tChain (r r' : R2) (ta tb tc : TE) : TE := fun σ H Q => ta σ H fun x H1 => tb σ H1 fun y H2 => r x y H2 fun z H3 => ∃ k, z = .bl k ∧
  (if k = true then tc σ H3 fun w' H4 => r' y w' H4 Q else Q (.bl false) H3)
theorem pt_chain {op op' : CmpOp} {r r' : R2} (ho : OpR X (compareOp op) r) (ho' : OpR X (compareOp op') r') (ha : PE X a ta) (hb : PE X b tb) (hc : PE X c tc)
    (hm : lastMarks [op, op'] [b, c] = false := by with_unfolding_all rfl) : PT X (.Compare a [op, op'] [b, c] pos) (tTest (tChain r r' ta tb tc)) := by
  intro pins s σ H Q I h
  refine isTrue_chain (thn (ha pins s σ H _ I h) fun v s1 ⟨x, H1, I1, r1, q1⟩ => test_link (thn (hb pins s1 σ H1 _ I1 q1) fun u s2 ⟨y, H2, I2, r2, q2⟩ =>
    thn (ho pins s2 σ H2 x y v u _ I2 r1 r2 q2) fun d s3 ⟨z, H3, I3, r3, k, e, q3⟩ => ?_)) hm
  subst e
  cases r3
  refine wpAny_truthy_bool ?_
  cases k with
  | false =>
    obtain ⟨k', e', q'⟩ := q3
    cases e'
    exact ite_ff ⟨H3, I3, q'⟩
  | true =>
    refine ite_tt (test_last (thn (hc pins s3 σ H3 _ I3 q3) fun w' s4 ⟨z', H4, I4, r4, q4⟩ => thn (ho' pins s4 σ H4 y z' u w' _ I4 r2 r4 q4) fun d' s5 ⟨z2, H5, I5, r5, k2, e2, q5⟩ => ?_))
    subst e2
    cases r5
    exact wpAny_truthy_bool ⟨H5, I5, q5⟩

/-! ### truth -/
/-- a value's truth by the abstract heap -/
def TruV (K : PySem.W.Frag) (x : V) (H : Hp) (k : Bool) : Prop :=
  match x with
  | .non => k = false
  | .bl b => k = b
  | .int i => k = (i != 0)
  | .str y => y.length ≤ sizeLine ∧ k = ((y.length : Int) != 0)
  | .byt y => y.size ≤ sizeLine ∧ k = ((y.size : Int) != 0)
  | .ref p => (∃ xs, SqL K H p xs ∧ k = !xs.isEmpty) ∨ (∃ xs, SqT K H p xs ∧ k = !xs.isEmpty) ∨ ∃ kvs, H p = some (.dK kvs) ∧ k = !kvs.isEmpty
  | _ => False
theorem line63 : (sizeLine : Nat) < 2 ^ 63 := by rw [sizeLine_eq]; decide
/-! ### strs and bytes -/
theorem op_add_str : OpR X (binaryOp .Add) (fun x y H Q => ∃ i j, x = .str i ∧ y = .str j ∧ i.length + j.length ≤ sizeLine ∧ Q (.str (i ++ j)) H) := by
  intro pins s σ H x y v u Q I rx ry h
  obtain ⟨i, j, rfl, rfl, hz, q⟩ := h
  obtain ⟨t, rfl⟩ := rx
  obtain ⟨t', rfl⟩ := ry
  exact add_str (fun t' tk => ⟨.str (i ++ j), H, I.tok _, ⟨_, rfl⟩, q⟩) hz
def PlainIxT (b : Expr) : Prop := ∀ o i, subscripted b false o i = operate [o, i] (getItem o i)
/-! ### scalar builtins, by CallR -/
theorem vals1 {x : V} {us : List Value} (r : Vals [x] us) : ∃ u, us = [u] ∧ RelV x u := by
  cases r with
  | cons r1 r2 => cases r2; exact ⟨_, rfl, r1⟩
theorem vals2 {x y : V} {us : List Value} (r : Vals [x, y] us) : ∃ u w', us = [u, w'] ∧ RelV x u ∧ RelV y w' := by
  cases r with
  | cons r1 r2 =>
    cases r2 with
    | cons r3 r4 => cases r4; exact ⟨_, _, rfl, r1, r3⟩
/-- len of a str, a bytes, a list, a tuple -/
def LenV (K : PySem.W.Frag) (x : V) (H : Hp) (n : Nat) : Prop :=
  match x with
  | .str y => y.length ≤ sizeLine ∧ n = y.length
  | .byt y => y.size ≤ sizeLine ∧ n = y.size
  | .ref p => (∃ xs, SqL K H p xs ∧ n = xs.length) ∨ ∃ xs, SqT K H p xs ∧ n = xs.length
  | _ => False
end
end L2

namespace L2
open PySem PySem.Spec PyProof.Rows

/-! ### an instance, its attributes a map -/
structure ObjM (h : Heap) (x dx C : Addr) (mA : Str → Option Value) : Prop where
  obj : h.get? x = some (PySem.W.instObj C dx)
  ns : h.Ns1 dx mA
  ne : dx ≠ x

theorem lookIn_ns {h : Heap} {dx : Addr} {mA : Str → Option Value} (n : h.Ns1 dx mA) : ∃ od, h.get? dx = some od ∧ ∀ name, PySem.W.lookIn name od = some (mA name) := by
  obtain ⟨o, es, ep, ho, hd, hk, _, hm⟩ := n
  refine ⟨o, ho, fun name => ?_⟩
  have e := hm name
  unfold nsFind findBy at e
  rw [← Array.find?_toList] at e
  unfold PySem.W.lookIn
  rw [hd]
  dsimp only
  split
  · rename_i y q
    rw [q] at e
    exact congrArg some e
  · rename_i q
    rw [q] at e
    have a : es.toList.any (·.refKey) = false := by
      rw [List.any_eq_false]
      intro y hy
      obtain ⟨z, t, hkey⟩ := hk y (Array.mem_toList_iff.mp hy)
      simp [DictEntry.refKey, hkey]
    have a' : ¬ es.toList.any (·.refKey) = true := by rw [a]; exact Bool.false_ne_true
    rw [if_neg a']
    exact congrArg some e

theorem ObjM.look {h : Heap} {x dx C : Addr} {mA : Str → Option Value} (I : ObjM h x dx C mA) : ∃ od, PySem.W.InstAt h x (PySem.W.instObj C dx) C (some od) ∧ ∀ name, PySem.W.lookIn name od = some (mA name) :=
  let ⟨od, ho, hl⟩ := lookIn_ns I.ns
  ⟨od, ⟨I.obj, rfl, rfl, ho⟩, hl⟩

section
variable {prog : Program} {w : World} {A : Around} {E : Value → Shared → Prop} {s : Shared} {K : PySem.W.Frag} {x dx C f : Addr} {mA : Str → Option Value} {name : Str} {v : Value}

end

/-! ### the attributes as a list of pairs -/
def putF (f : Str) (v : V) : List (Str × V) → List (Str × V)
  | [] => [(f, v)]
  | (g, x) :: r => if g = f then (g, v) :: r else (g, x) :: putF f v r
section
variable {P : Program} {w : World} {H H' : Hp} {h h' : Heap} {a C dx : Addr} {fs fs' : List (Str × V)}
theorem ins_get (hok : HOk P w H h) (e : H a = some (.ins C dx fs)) : ∃ mA, ObjM h a dx C mA ∧ (∀ f, RelO (fs.lookup f) (mA f)) ∧ PySem.Within mA (fs.map (·.1)) ∧ fs.length ≤ 1000 ∧ H dx = some (.own a) := by
  obtain ⟨d, z, ne, ob, mA, n, r, q⟩ := (show ObjOk P w H h a (.ins C dx fs) from hok a _ e)
  exact ⟨mA, ⟨ob, n, ne⟩, r, q, z, d⟩
end

/-! ### what of the text a class must have -/
structure Cls (K : PySem.W.Frag) (C : Addr) : Prop where
  pg : PySem.W.plainGet K C Str.empty = true
  hd : PySem.W.hasDictIn K C = true
  po : PySem.W.plainOver K C = true
  sa : PySem.W.findIn K (.ref C) "__setattr__" = some (some (.builtin "object.__setattr__"))
theorem Cls.get {K : PySem.W.Frag} {C : Addr} (c : Cls K C) (f : Str) : PySem.W.plainGet K C f = true := c.pg
/-- no class of it has the name -/
def NoAttr (K : PySem.W.Frag) (C : Addr) (f : Str) : Prop := PySem.W.findIn K (.ref C) f = some none
/-- a constant of the class -/
structure Con (K : PySem.W.Frag) (C : Addr) (f : Str) (v : V) (u : Value) : Prop where
  at_ : PySem.W.findIn K (.ref C) f = some (some u)
  rel : RelV v u
  get : PySem.W.specialIn K u "__get__" = some none
  cp : PySem.W.copiedNames.contains f = false
/-- a method: a plain def of the class or of one above it -/
structure Meth (K : PySem.W.Frag) (C : Addr) (m : Str) (f : Addr) : Prop where
  at_ : PySem.W.findIn K (.ref C) m = some (some (.ref f))
  fn : PySem.W.isFn K (.ref f) = true
  kp : PySem.W.keepIn K (.ref f) = true

section
variable {X : Cx} {pins : List (Addr × Obj)} {σ : St} {H : Hp} {s : Shared} {a C dx : Addr} {fs : List (Str × V)} {f : Str} {v : V} {A : Around} {E : Value → Shared → Prop}

/-- a new instance, tracked, without attributes -/
theorem Inv.made (I : Inv X pins σ H s) : Inv X pins σ (upd (upd H s.heap.objs.size (.own (s.heap.objs.size + 1))) (s.heap.objs.size + 1) (.ins C s.heap.objs.size []))
    { s with heap := (s.heap.push PySem.W.emptyDict).push (PySem.W.instObj C s.heap.objs.size) } := by
  have e1 : (s.heap.push PySem.W.emptyDict).get? s.heap.objs.size = some PySem.W.emptyDict := Heap.get?_push_size s.heap rfl
  have e2 : ((s.heap.push PySem.W.emptyDict).push (PySem.W.instObj C s.heap.objs.size)).get? (s.heap.objs.size + 1) = some (PySem.W.instObj C s.heap.objs.size) := by
    have := Heap.get?_push_size (s.heap.push PySem.W.emptyDict) (o := PySem.W.instObj C s.heap.objs.size) rfl
    rwa [Heap.size_push] at this
  have e3 : (s.heap.push PySem.W.emptyDict).Ns s.heap.objs.size (fun _ => none) := ⟨PySem.W.emptyDict, #[], _, e1, rfl, (fun e he => absurd he (by simp)), fun _ => rfl⟩
  have I1 := I.laid (a := s.heap.objs.size) (o := .own (s.heap.objs.size + 1)) (h' := s.heap.push PySem.W.emptyDict) (t' := s.toks) (fun b u q => Heap.get?_push_of_some _ q) (Nat.le_refl _) ⟨_, e1⟩
  refine I1.laid (a := s.heap.objs.size + 1) (o := .ins C s.heap.objs.size []) (t' := s.toks) (fun b u q => Heap.get?_push_of_some _ q) (Nat.le_of_eq (Heap.size_push _ _)) ?_
  have ne : s.heap.objs.size ≠ s.heap.objs.size + 1 := Nat.ne_of_lt (Nat.lt_succ_self _)
  refine ⟨by rw [upd_ne ne, upd_same], Nat.zero_le _, ne, e2, fun _ => none, (Heap.Ns1.of_empty e3).at fun o q => Heap.get?_push_of_some _ q, fun _ => True.intro, fun y hy => absurd rfl hy⟩

end

/-! ### readings and rules -/
/-- e.f, an attribute of the instance -/
def tFld (K : PySem.W.Frag) (ta : TE) (f : Str) : TE := fun σ H Q => ta σ H fun x H1 => ∃ a C dx fs v, x = .ref a ∧ H1 a = some (.ins C dx fs) ∧ Cls K C ∧ NoAttr K C f ∧ fs.lookup f = some v ∧ Q v H1
/-- e.f, a constant of the class -/
def tCon (K : PySem.W.Frag) (ta : TE) (f : Str) : TE := fun σ H Q => ta σ H fun x H1 => ∃ a C dx fs v u, x = .ref a ∧ H1 a = some (.ins C dx fs) ∧ Cls K C ∧ Con K C f v u ∧ fs.lookup f = none ∧ Q v H1
/-- e.f = value -/
def sFld (K : PySem.W.Frag) (ta tv : TE) (f : Str) : TS := fun D σ H => tv σ H fun y H1 => ta σ H1 fun x H2 => ∃ a C dx fs, x = .ref a ∧ H2 a = some (.ins C dx fs) ∧ Cls K C ∧ NoAttr K C f ∧ fs.length < 1000 ∧
  D.nx σ (upd H2 a (.ins C dx (putF f y fs)))
/-- an augmented operator on two values -/
def InOp (X : Cx) (op : Operator) (rd : V → V → Hp → VK → Prop) : Prop :=
  ∀ (pins : List (Addr × Obj)) (s : Shared) (σ : St) (H : Hp) (x y : V) (u v : Value) (Q : VK), Inv X pins σ H s → RelV x u → RelV y v → rd x y H Q → wpAny (model X.prog X.w) X.A (inplaceOp op u v) (EP X pins σ Q) X.xe s
/-- e.f op= value -/
def sFldAug (K : PySem.W.Frag) (ta tv : TE) (rd : V → V → Hp → VK → Prop) (f : Str) : TS := fun D σ H => ta σ H fun x H1 => ∃ a C dx fs v, x = .ref a ∧ H1 a = some (.ins C dx fs) ∧ Cls K C ∧ NoAttr K C f ∧ fs.lookup f = some v ∧
  tv σ H1 fun y H2 => rd v y H2 fun z H3 => ∃ dx' fs', H3 a = some (.ins C dx' fs') ∧ fs'.length < 1000 ∧ D.nx σ (upd H3 a (.ins C dx' (putF f z fs')))

section
variable {X : Cx} {o e value : Expr} {f : Str} {pos pos' tpos : Pos} {ta tv : TE}
def rAdd : V → V → Hp → VK → Prop := fun x y H Q => ∃ i j, x = .int i ∧ y = .int j ∧ Q (.int (i + j)) H
def rSub : V → V → Hp → VK → Prop := fun x y H Q => ∃ i j, x = .int i ∧ y = .int j ∧ Q (.int (i - j)) H
end

/-! ### isinstance -/
section
variable {X : Cx} {pins : List (Addr × Obj)} {σ : St} {H : Hp} {s : Shared} {A : Around} {E : Value → Shared → Prop} {Q : Value → Shared → Prop} {c : Value} {b : Bool}
/-- the type of a value, as the fragment's deciders take it; for an instance its class -/
inductive TyOf (K : PySem.W.Frag) (H : Hp) : V → Value → Prop where
  | non : TyOf K H .non (.type "NoneType")
  | bl (x : Bool) : TyOf K H (.bl x) (.type "bool")
  | int (i : Int) : TyOf K H (.int i) (.type "int")
  | str (x : Str) : TyOf K H (.str x) (.type "str")
  | flt (x : UInt64) : TyOf K H (.flt x) (.type "float")
  | lst {a : Addr} {xs : List V} (e : H a = some (.lst xs)) : TyOf K H (.ref a) (.type "list")
  | frz {a : Addr} {o : Obj} {xs : List V} (e : H a = some (.frz o (.lst xs))) : TyOf K H (.ref a) (.type "list")
  | tup {a : Addr} {xs : List V} (e : H a = some (.tup xs)) : TyOf K H (.ref a) (.type "tuple")
  | dK {a : Addr} {kvs : List (Key × V)} (e : H a = some (.dK kvs)) : TyOf K H (.ref a) (.type "dict")
  | dT {a : Addr} {kvs : List (List Key × V)} (e : H a = some (.dT kvs)) : TyOf K H (.ref a) (.type "dict")
  | ins {a C dx : Addr} {fs : List (Str × V)} (e : H a = some (.ins C dx fs)) (cl : Cls K C) (ha : PySem.W.findIn K (.ref C) "__class__" = some (some (.builtin "object.__class__")))
      (hn : PySem.W.specialIn K (.builtin "object.__class__") "__get__" = some (some (.builtin "getset_descriptor.__get__"))) (htk : PySem.W.takesIn K (.builtin "object.__class__") = some true)
      (hm : PySem.W.mroIn K C (.type "object") = some true) : TyOf K H (.ref a) (.ref C)
/-- isinstance(x, c) for one class c, a built-in or an own one: kitOne's answer -/
theorem isinst_ok {x : V} {u t : Value} (I : Inv X pins σ H s) (rx : RelV x u) (ty : TyOf X.K H x t) (e : PySem.W.kitOne X.K t c = some b) (h : ∀ tk, Q (.bool b) { s with toks := tk }) :
    wpAny (model X.prog X.w) A (call (.builtin "isinstance") [u, c]) Q E s := by
  cases ty with
  | non => cases (show u = Value.none from rx); exact PySem.W.kia_one PySem.W.kitx_none I.kIn True.intro e (fun z => nomatch z) h
  | bl y => cases (show u = Value.bool y from rx); exact PySem.W.kia_one PySem.W.kitx_bool I.kIn True.intro e (fun z => nomatch z) h
  | int i => obtain ⟨t, q⟩ := (show ∃ t, u = Value.int i t from rx); cases q; exact PySem.W.kia_one PySem.W.kitx_int I.kIn True.intro e (fun z => nomatch z) h
  | str y => obtain ⟨t, q⟩ := (show ∃ t, u = Value.str y t from rx); cases q; exact PySem.W.kia_one PySem.W.kitx_str I.kIn True.intro e (fun z => nomatch z) h
  | flt y => obtain ⟨t, q⟩ := (show ∃ t, u = Value.float y t from rx); cases q; exact PySem.W.kia_one PySem.W.kitx_float I.kIn True.intro e (fun z => nomatch z) h
  | @lst a xs ea =>
    cases (show u = Value.ref a from rx)
    obtain ⟨_, _, n, _, h1⟩ := (show ObjOk X.prog X.w H s.heap a (.lst xs) from I.hok a _ ea)
    exact PySem.W.kia_one PySem.W.kitx_list I.kIn ⟨_, h1, rfl⟩ e (fun z => nomatch z) h
  | @frz a ob xs ea =>
    cases (show u = Value.ref a from rx)
    obtain ⟨_, _, _, n, _, h1⟩ := (show ObjOk X.prog X.w H s.heap a (.frz ob (.lst xs)) from I.hok a _ ea)
    exact PySem.W.kia_one PySem.W.kitx_list I.kIn ⟨_, h1, rfl⟩ e (fun z => nomatch z) h
  | @tup a xs ea =>
    cases (show u = Value.ref a from rx)
    obtain ⟨_, _, _, p⟩ := (show ObjOk X.prog X.w H s.heap a (.tup xs) from I.hok a _ ea)
    obtain ⟨o, h1, h2, _⟩ := p
    exact PySem.W.kia_one PySem.W.kitx_tuple I.kIn ⟨o, h1, h2⟩ e (fun z => nomatch z) h
  | @dK a kvs ea =>
    cases (show u = Value.ref a from rx)
    obtain ⟨_, _, vs, _, p⟩ := (show ObjOk X.prog X.w H s.heap a (.dK kvs) from I.hok a _ ea)
    obtain ⟨o, es, ep, h1, h2, _⟩ := p
    exact PySem.W.kia_one PySem.W.kitx_dict I.kIn ⟨o, h1, h2.1⟩ e (fun z => nomatch z) h
  | @dT a kvs ea =>
    cases (show u = Value.ref a from rx)
    obtain ⟨_, _, xs, _, o, es, ep, h1, h2, _⟩ := (show ObjOk X.prog X.w H s.heap a (.dT kvs) from I.hok a _ ea)
    exact PySem.W.kia_one PySem.W.kitx_dict I.kIn ⟨o, h1, h2.1⟩ e (fun z => nomatch z) h
  | @ins a C dx fs ea cl ha hn htk hm =>
    cases (show u = Value.ref a from rx)
    obtain ⟨mA, O, _⟩ := ins_get I.hok ea
    obtain ⟨od, J, _⟩ := O.look
    exact PySem.W.kia_one (PySem.W.kitx_own (cl.get _) cl.hd ha hn htk hm) I.kIn J e (fun z => nomatch z) h
end
end L2

namespace L2
open PySem PySem.Spec PyProof.Rows

/-! ### room -/
structure Room (k : Nat) (A : Around) : Prop where
  hd : A.handled = none
  dp : A.depth + 3 * k + 5 < recursionLimit
  un : A.units + 16 * k + 200 < cLine
theorem Room.mono {j k : Nat} {A : Around} (r : Room k A) (h : j ≤ k) : Room j A := ⟨r.hd, by have := r.dp; omega, by have := r.un; omega⟩
theorem Room.deeper {k : Nat} {A : Around} (r : Room (k + 1) A) (env : Env) : Room k (A.deeper env) :=
  ⟨r.hd, by have := r.dp; show A.depth + 1 + 3 * k + 5 < _; omega, by have := r.un; show A.units + 3 + 16 * k + 200 < _; omega⟩
theorem Room.in1 {k : Nat} {A : Around} (r : Room (k + 1) A) : Room k A.in1 :=
  ⟨r.hd, by have := r.dp; show A.depth + 3 * k + 5 < _; omega, by have := r.un; show A.units + 1 + 16 * k + 200 < _; omega⟩
theorem make_depth {A : Around} {C : Addr} {us : List Value} {kw : List (Str × Value)} : (A.under (.builtin "type.__call__" ⟨.ref C :: us, kw⟩)).depth = A.depth + 1 := by
  first | rfl | simp [Around.under, Code.weight, Code.isCreation, Code.isGuard, Code.isCaller, Code.frames, Code.isFrame, guardIds]
theorem make_units {A : Around} {C : Addr} {us : List Value} {kw : List (Str × Value)} : (A.under (.builtin "type.__call__" ⟨.ref C :: us, kw⟩)).units = A.units + 1 := by
  first | rfl | simp [Around.under, Code.cUnits, Code.frames, Code.isFrame]
theorem Room.make {k : Nat} {A : Around} (r : Room (k + 1) A) (C : Addr) (us : List Value) (kw : List (Str × Value)) : Room k (A.under (.builtin "type.__call__" ⟨.ref C :: us, kw⟩)) :=
  ⟨r.hd, by have := r.dp; rw [make_depth]; omega, by have := r.un; rw [make_units]; omega⟩
theorem Room.depth {k : Nat} {A : Around} (r : Room k A) : A.depth < recursionLimit := by have := r.dp; omega
theorem Room.units {k : Nat} {A : Around} (r : Room k A) : A.units + 64 < cLine := by have := r.un; omega
/-! ### argument lists and displays -/
def tNil : TA := fun _ H Q => Q [] H
def tCons (ta : TE) (tr : TA) : TA := fun σ H Q => ta σ H fun x H1 => tr σ H1 fun xs H2 => Q (x :: xs) H2
section
variable {X : Cx} {e : Expr} {es : List Expr} {te : TE} {t : TA} {pos : Pos}
theorem pa_nil : PA X [] tNil := fun _ _ _ _ H Q I h => Calls.spliced_nil ⟨[], H, I, .nil, h⟩
theorem pa_cons (ha : PE X e te) (hr : PA X es t) (hs : starEach (e :: es) X.env = (false, eval e X.env) :: starEach es X.env := by rfl) : PA X (e :: es) (tCons te t) := by
  intro pos pins s σ H Q I h
  rw [hs]
  show wpAny _ _ (spliced ((false, eval e X.env) :: backTo pos (starEach es X.env))) _ _ s
  refine Calls.spliced_cons (thn (ha pins s σ H _ I h) fun u s1 ⟨x, H1, I1, r1, q1⟩ => ?_)
  exact thn (hr pos pins s1 σ H1 _ I1 q1) fun us s2 ⟨xs, H2, I2, r2, q2⟩ => ⟨x :: xs, H2, I2, .cons r1 r2, q2⟩

/-- a tuple, a list of written items -/
def tTup (t : TA) : TE := fun σ H Q => t σ H fun xs H1 => xs.length ≤ sizeLine ∧ ∀ p, H1 p = none → Q (.ref p) (upd H1 p (.tup xs))
def tLst (t : TA) : TE := fun σ H Q => t σ H fun xs H1 => xs.length ≤ sizeLine ∧ ∀ p, H1 p = none → Q (.ref p) (upd H1 p (.lst xs))
end

/-! ### what a def promises -/
/-- a def's promise: the bound arguments in the parameters' order, the heap, the wanted end, the wanted exception -/
abbrev Sp := List V → Hp → VK → XK → Prop
/-- how an exception lies behind a call (file 08 gives it): the callers' frames, abstract heap and state ahead of the call, the wish, the exception, the state -/
abbrev CXT := List Env → Hp → Shared → XK → Value → Shared → Prop

/-- the state at a call -/
structure Env0 (P : Program) (w : World) (K : PySem.W.Frag) (mg : Str → Option Value) (base : Heap) (A : Around) (outer : List Env) (s : Shared) (H : Hp) : Prop where
  frames : A.frames = some outer
  mod : Mod K mg base
  bs : ∀ b o, base.get? b = some o → s.heap.get? b = some o ∧ H b = none
  bsz : base.objs.size ≤ s.heap.objs.size
  funs : s.heap.FunFrames base outer
  frf : ∀ b ∈ frs outer, H b = none
  hok : HOk P w H s.heap
  bare : AllBare s.gens
/-- a call's end -/
def CE (outer : List Env) (P : Program) (w : World) (H : Hp) (s : Shared) (Q : VK) (u : Value) (s' : Shared) : Prop :=
  ∃ v H', s'.os = s.os ∧ AllBare s'.gens ∧ Un (frs outer) [] H H' s.heap s'.heap ∧ HOk P w H' s'.heap ∧ RelV v u ∧ Q v H'
def CR (CX : CXT) (outer : List Env) (P : Program) (w : World) (H : Hp) (s : Shared) (Q : VK) (E : XK) (r : Result) (s' : Shared) : Prop :=
  match r with
  | .ok (.ret u) => CE outer P w H s Q u s'
  | .ok _ => False
  | .error e => CX outer H s E e s'
structure FnOk (P : Program) (w : World) (K : PySem.W.Frag) (mg : Str → Option Value) (base : Heap) (CX : CXT) (k : Nat) (f : Addr) (fd : FuncData) (ps : List Str) (sp : Sp) : Prop where
  len : ∀ vs H Q E, sp vs H Q E → vs.length = ps.length
  run : ∀ (A : Around) (outer : List Env) (s : Shared) (H : Hp) (args : Args) (us : List Value) (vs : List V) (Q : VK) (E : XK), Room k A → Env0 P w K mg base A outer s H → BindsTo s fd args (ps.zip us) → Vals vs us → sp vs H Q E →
    codeAny (model P w) A (.call (.ref f) args) (CR CX outer P w H s Q E) s
theorem FnOk.mono {P : Program} {w : World} {K : PySem.W.Frag} {mg : Str → Option Value} {base : Heap} {CX : CXT} {j k : Nat} {f : Addr} {fd : FuncData} {ps : List Str} {sp : Sp} (F : FnOk P w K mg base CX j f fd ps sp) (h : j ≤ k) :
    FnOk P w K mg base CX k f fd ps sp := ⟨F.len, fun A outer s H args us vs Q E hr => F.run A outer s H args us vs Q E (hr.mono h)⟩
/-- a weaker promise -/
theorem FnOk.imp {P : Program} {w : World} {K : PySem.W.Frag} {mg : Str → Option Value} {base : Heap} {CX : CXT} {k : Nat} {f : Addr} {fd : FuncData} {ps : List Str} {sp sp' : Sp} (F : FnOk P w K mg base CX k f fd ps sp)
    (h : ∀ vs H Q E, sp' vs H Q E → sp vs H Q E) : FnOk P w K mg base CX k f fd ps sp' :=
  ⟨fun vs H Q E q => F.len vs H Q E (h _ _ _ _ q), fun A outer s H args us vs Q E hr he hb hv hs => F.run A outer s H args us vs Q E hr he hb hv (h _ _ _ _ hs)⟩

theorem Env0.make {P : Program} {w : World} {K : PySem.W.Frag} {mg : Str → Option Value} {base : Heap} {A : Around} {outer : List Env} {s : Shared} {H : Hp} (e : Env0 P w K mg base A outer s H) (C : Addr) (us : List Value) (kw : List (Str × Value)) :
    Env0 P w K mg base (A.under (.builtin "type.__call__" ⟨.ref C :: us, kw⟩)) outer s H := ⟨by first | exact e.frames | (simpa [Around.under, Code.envs, Code.isFrame, pushEnvs] using e.frames), e.mod, e.bs, e.bsz, e.funs, e.frf, e.hok, e.bare⟩
theorem Env0.in1 {P : Program} {w : World} {K : PySem.W.Frag} {mg : Str → Option Value} {base : Heap} {A : Around} {outer : List Env} {s : Shared} {H : Hp} (e : Env0 P w K mg base A outer s H) :
    Env0 P w K mg base A.in1 outer s H := ⟨e.frames, e.mod, e.bs, e.bsz, e.funs, e.frf, e.hok, e.bare⟩

section
variable {X : Cx} {pins : List (Addr × Obj)} {σ : St} {H : Hp} {s s' : Shared}
/-- from a body: what a callee wants -/
theorem Inv.env0 (I : Inv X pins σ H s) : Env0 X.prog X.w X.K X.mg X.base X.A X.stack s H :=
  ⟨I.ok.frames, I.ok.mod, I.bs, Nat.le_trans I.ok.bsz I.sz, I.stack, I.stkFree, I.hok, I.bare⟩
/-- behind a call -/
theorem Inv.after {Q : VK} {u : Value} (I : Inv X pins σ H s) (h : CE X.stack X.prog X.w H s Q u s') : EP X pins σ Q u s' := by
  obtain ⟨v, H', os, bare, un, hok, r, q⟩ := h
  obtain ⟨hh, g, d, t, os'⟩ := s'
  obtain rfl : os' = s.os := os
  exact ⟨v, H', I.call (h' := hh) (g' := g) (d' := d) (t' := t) (ch := []) un hok bare (fun b z => absurd z (by simp)), r, q⟩
end

/-! ### calls -/
/-- f(..): the written arguments, then the defaults dvs; E: what is wanted of an exception -/
def tCall (sp : Sp) (dvs : List V) (E : XK) (t : TA) : TE := fun σ H Q => t σ H fun vs H1 => sp (vs ++ dvs) H1 Q E
/-- o.m(..) of an instance of the class at C -/
def tMeth (C : Addr) (m : Str) (sp : Sp) (dvs : List V) (E : XK) (ta : TE) (t : TA) : TE := fun σ H Q => ta σ H fun x H1 => ∃ a dx fs, x = .ref a ∧ H1 a = some (.ins C dx fs) ∧ fs.lookup m = none ∧
  t σ H1 fun vs H2 => sp (x :: (vs ++ dvs)) H2 Q E
/-- C(..): a new instance and its dict, then __init__ -/
def tMake (C : Addr) (sp : Sp) (dvs : List V) (E : XK) (t : TA) : TE := fun σ H Q => t σ H fun vs H1 => ∀ x dx, H1 x = none → H1 dx = none → dx ≠ x →
  sp (.ref x :: (vs ++ dvs)) (upd (upd H1 dx (.own x)) x (.ins C dx [])) (fun v H2 => v = .non ∧ Q (.ref x) H2) E

/-- how the parameters are bound: us the positional arguments, kw the keywords' values by name, ds the defaults that fill up -/
def Binds (K : PySem.W.Frag) (fd : FuncData) (ps : List Str) (ds : List Value) : Prop :=
  ∀ (s : Shared) (us : List Value), K.In s.heap → (us ++ ds).length = ps.length → BindsTo s fd ⟨us, []⟩ (ps.zip (us ++ ds))
/-- every parameter is given -/
theorem Binds.all {K : PySem.W.Frag} {fd : FuncData} {ps : List Str} (h : ∀ us : List Value, us.length = ps.length → bindArgs fd ⟨us, []⟩ = pure (ps.zip us)) : Binds K fd ps [] := fun s us _ hl => by
  rw [List.append_nil] at hl ⊢
  exact .of_eq (h us hl)

/-- an exception of a callee reaches what this body wants of exceptions -/
def Passes (CX : CXT) (X : Cx) (E : XK) : Prop := ∀ (pins : List (Addr × Obj)) (σ : St) (H : Hp) (s : Shared) (e : Value) (s' : Shared), Inv X pins σ H s → CX X.stack H s E e s' → X.xe e s'

section
variable {X : Cx} {CX : CXT} {k : Nat} {f C : Addr} {fd : FuncData} {ps : List Str} {sp : Sp} {dvs : List V} {ds : List Value} {E : XK} {x m : Str} {p pos apos : Pos} {e o : Expr} {es : List Expr} {ta : TE} {t : TA}

/-- what a class must have to be made -/
structure Mk (K : PySem.W.Frag) (C f : Addr) : Prop where
  makes : PySem.W.makesIn K C = true
  init : PySem.W.findIn K (.ref C) "__init__" = some (some (.ref f))
  fn : PySem.W.isFn K (.ref f) = true
  kp : PySem.W.keepIn K (.ref C) = true

end

/-! ### keywords -/
/-- the values of the keywords, from the left -/
def PK (X : Cx) (kws : List Keyword) (t : TA) : Prop :=
  ∀ (pos : Pos) (pins : List (Addr × Obj)) (s : Shared) (σ : St) (H : Hp) (Q : List V → Hp → Prop), Inv X pins σ H s → t σ H Q → wpAny (model X.prog X.w) X.A (evalAll ((backToKw pos (keywordEach kws X.env)).map (·.2))) (AP X pins σ Q) X.xe s
section
variable {X : Cx} {CX : CXT} {k : Nat} {f C : Addr} {fd : FuncData} {ps ks : List Str} {sp : Sp} {E : XK} {x m : Str} {p pos apos kpos : Pos} {e o : Expr} {es : List Expr} {kws : List Keyword} {te ta : TE} {t tk : TA} {nm : Option Str}
/-- how a call with keywords binds: g puts the positional values us and the keywords' values ws (names ks) in the parameters' order, defaults among them -/
structure KBinds (K : PySem.W.Frag) (fd : FuncData) (ps ks : List Str) (g : List Value → List Value → List Value) (gV : List V → List V → List V) : Prop where
  to : ∀ (s : Shared) (us ws : List Value), K.In s.heap → (g us ws).length = ps.length → BindsTo s fd ⟨us, ks.zip ws⟩ (ps.zip (g us ws))
  rel : ∀ {vs : List V} {us : List Value} {zs : List V} {ws : List Value}, Vals vs us → Vals zs ws → Vals (gV vs zs) (g us ws)
def tCallK (sp : Sp) (gV : List V → List V → List V) (E : XK) (t tk : TA) : TE := fun σ H Q => t σ H fun vs H1 => tk σ H1 fun zs H2 => sp (gV vs zs) H2 Q E
variable {g : List Value → List Value → List Value} {gV : List V → List V → List V}
end

/-! ### a def's body keeps its promise -/
/-- names: the parameters first -/
structure FnScope (N P : List Str) (sc : Scope) : Prop where
  kind : sc.kind = .function
  co : sc.isCoroutine = false
  gen : sc.isGenerator = false
  nd : N.Nodup
  pre : N.take P.length = P
  par : ∀ x ∈ P, sc.names.lookup x = some .local ∨ sc.names.lookup x = some .cell
  nofree : ∀ y ∈ sc.names, y.2 ≠ .free

theorem bindL_out {kindOf : Str → Option NameKind} {x : Str} : ∀ {binds : List (Str × Value)} {m : Str → Option Value}, (∀ v, (x, v) ∉ binds) → bindL kindOf binds m x = m x
  | [], _, _ => rfl
  | (n, v) :: r, m, h => by
    unfold bindL
    rw [bindL_out fun w hw => h w (List.mem_cons_of_mem _ hw)]
    split
    · have : x ≠ n := by rintro rfl; exact h v List.mem_cons_self
      simp [this]
    · rfl
theorem bindC_out {kindOf : Str → Option NameKind} {x : Str} : ∀ {binds : List (Str × Value)} {m : Str → Option Value}, (∀ v, (x, v) ∉ binds) → bindC kindOf binds m x = m x
  | [], _, _ => rfl
  | (n, v) :: r, m, h => by
    unfold bindC
    rw [bindC_out fun w hw => h w (List.mem_cons_of_mem _ hw)]
    split
    · rfl
    · have : x ≠ n := by rintro rfl; exact h v List.mem_cons_self
      simp [this]
theorem bindL_get {kindOf : Str → Option NameKind} {x : Str} {v : Value} : ∀ {P : List Str} {vs : List Value} {i : Nat} {m : Str → Option Value}, P.Nodup → P[i]? = some x → vs[i]? = some v → kindOf x = some .local →
    bindL kindOf (P.zip vs) m x = some v
  | [], _, _, _, _, h, _, _ => by simp at h
  | _ :: _, [], _, _, _, _, h, _ => by simp at h
  | p :: P, w :: vs, 0, m, nd, h1, h2, hk => by
    simp at h1 h2; subst h1; subst h2
    show bindL kindOf ((p, w) :: P.zip vs) m p = _
    unfold bindL
    rw [bindL_out fun v hv => (List.nodup_cons.mp nd).1 (List.of_mem_zip hv).1, if_pos hk]
    simp
  | p :: P, w :: vs, i + 1, m, nd, h1, h2, hk => by
    show bindL kindOf ((p, w) :: P.zip vs) m x = _
    unfold bindL
    exact bindL_get (i := i) (List.nodup_cons.mp nd).2 (by simpa using h1) (by simpa using h2) hk
theorem bindC_get {kindOf : Str → Option NameKind} {x : Str} {v : Value} : ∀ {P : List Str} {vs : List Value} {i : Nat} {m : Str → Option Value}, P.Nodup → P[i]? = some x → vs[i]? = some v → kindOf x ≠ some .local →
    bindC kindOf (P.zip vs) m x = some v
  | [], _, _, _, _, h, _, _ => by simp at h
  | _ :: _, [], _, _, _, _, h, _ => by simp at h
  | p :: P, w :: vs, 0, m, nd, h1, h2, hk => by
    simp at h1 h2; subst h1; subst h2
    show bindC kindOf ((p, w) :: P.zip vs) m p = _
    unfold bindC
    rw [bindC_out fun v hv => (List.nodup_cons.mp nd).1 (List.of_mem_zip hv).1, if_neg hk]
    simp
  | p :: P, w :: vs, i + 1, m, nd, h1, h2, hk => by
    show bindC kindOf ((p, w) :: P.zip vs) m x = _
    unfold bindC
    exact bindC_get (i := i) (List.nodup_cons.mp nd).2 (by simpa using h1) (by simpa using h2) hk

/-- the names' values at the entry -/
def start (N : List Str) (vs : List V) : St := vs.map some ++ List.replicate (N.length - vs.length) none

/-- the context of a def's body, at its entry; an exception leaves the frame, then lies as CX says -/
def cxOf (CX : CXT) (P : Program) (w : World) (K : PySem.W.Frag) (mg : Str → Option Value) (base : Heap) (N : List Str) (qual : Str) (scope : Scope) (f : Addr) (cd : Value) (A : Around) (outer : List Env) (s : Shared) (H : Hp) (E : XK) : Cx where
  prog := P
  w := w
  K := K
  mg := mg
  base := base
  A := A.deeper (envOfC qual scope s.heap.objs.size f cd)
  N := N
  s₀ := s
  H₀ := H
  env := envOfC qual scope s.heap.objs.size f cd
  outer := outer
  stack := envOfC qual scope s.heap.objs.size f cd :: outer
  ex := []
  calm := true
  fn := fun _ => true
  pn := []
  xe := fun e s' => wpAny (model P w) (A.deeper (envOfC qual scope s.heap.objs.size f cd)) (leaving (envOfC qual scope s.heap.objs.size f cd) e) (fun _ s'' => CX outer H s E e s'') (fun e' s'' => CX outer H s E e' s'') s'

theorem cell_has {sc : Scope} {n : Nat} {x : Str} (h : sc.names.lookup x = some .cell) : ∃ c, (cellsFrom n sc.names []).lookup x = some c := by
  have q := PySem.W.cellsFrom_some sc.names n [] (.inl h)
  exact Option.isSome_iff_exists.mp q

theorem inv_start {CX : CXT} {P : Program} {w : World} {K : PySem.W.Frag} {mg : Str → Option Value} {base : Heap} {N ps : List Str} {qual : Str} {scope : Scope} {f : Addr} {cd : Value} {A : Around} {outer : List Env} {s s1 : Shared} {H : Hp} {E : XK} {us : List Value} {vs : List V}
    (S : FnScope N ps scope) (hd : A.handled = none) (e0 : Env0 P w K mg base A outer s H) (hl : vs.length = ps.length) (r : Vals vs us)
    (x : InCallC s s.heap.objs.size (bindL (envOfC qual scope s.heap.objs.size f cd).kindOf (ps.zip us) fun _ => none) (cellsFrom (s.heap.objs.size + 1) scope.names []) (bindC (envOfC qual scope s.heap.objs.size f cd).kindOf (ps.zip us) fun _ => none) s1) :
    Inv (cxOf CX P w K mg base N qual scope f cd A outer s H E) [] (start N vs) H s1 := by
  have hpl : ps.length ≤ N.length := by have := congrArg List.length S.pre; rw [List.length_take] at this; omega
  obtain ⟨h1, tk, rfl, hk⟩ := x.done
  have noA : ∀ b : Addr, b ∉ (cxOf CX P w K mg base N qual scope f cd A outer s H E).ex := fun b z => absurd (show b ∈ ([] : List Addr) from z) (by simp)
  refine ⟨⟨e0.mod, S.kind, rfl, rfl, Nat.le_refl _, fun y z c h1 h2 => ?_, fun y hy => ?_, fun y c _ h => ?_, fun _ => hd, Around.frames_deeper e0.frames, .inr ⟨rfl, rfl⟩, fun b z => absurd z (noA b), e0.bs, e0.bsz, fun b _ _ => noA b, fun b z => absurd z (noA b), e0.funs, e0.frf⟩,
    rfl, e0.bare, Un.kept hk, ⟨_, x.toInCall.ns, fun i y v h1 h2 h3 => ?_⟩, fun y c h => ⟨_, x.cell y c h⟩, e0.hok.fresh (Nat.le_refl _), fun y c h => ?_, fun p hp => absurd (show p ∈ ([] : List (Addr × Obj)) from hp) (by simp), e0.hok.kept hk, ?_⟩
  · exact name_of_addr x.apart (PySem.mem_of_lookup h1) (PySem.mem_of_lookup h2)
  · have hy : scope.names.lookup y = some .cell ∨ scope.names.lookup y = some .free := hy
    rcases hy with hy | hy
    · exact cell_has hy
    · exact absurd rfl (S.nofree _ (PySem.mem_of_lookup hy))
  · exact Nat.le_of_lt (x.above y c (PySem.mem_of_lookup h))
  · have hi : i < vs.length := by
      unfold start at h2
      by_cases hi : i < vs.length
      · exact hi
      · rw [List.getElem?_append_right (by simpa using hi)] at h2
        rw [List.getElem?_replicate] at h2
        split at h2 <;> cases h2
    have ha : vs[i]? = some v := by
      unfold start at h2
      rw [List.getElem?_append_left (by simpa using hi), List.getElem?_map] at h2
      cases e : vs[i]? with
      | none => rw [e] at h2; cases h2
      | some a => rw [e] at h2; cases h2; rfl
    obtain ⟨u, hu, rv⟩ := r.get ha
    have hp : ps[i]? = some y := by
      rw [← S.pre, List.getElem?_take_of_lt (by omega)]; exact h1
    have ndP : ps.Nodup := by rw [← S.pre]; exact S.nd.sublist (List.take_sublist _ _)
    refine ⟨u, rv, ?_⟩
    rcases S.par y (List.mem_of_getElem? hp) with k | k
    · exact .inl ⟨k, bindL_get ndP hp hu k⟩
    · obtain ⟨c, e⟩ := cell_has (n := s.heap.objs.size + 1) k
      refine .inr ⟨.inl k, c, e, ?_⟩
      have q := x.cell y c e
      rw [bindC_get ndP hp hu (by show scope.names.lookup y ≠ _; rw [k]; decide)] at q
      exact q
  · exact e0.hok.fresh (Nat.le_of_lt (x.above y c (PySem.mem_of_lookup h)))
  · unfold start
    show _ = N.length
    rw [List.length_append, List.length_map, List.length_replicate]
    omega

/-- THE RULE: a def (or a method) of the text, by its body. The body's reading t is chosen for each entry; it is run at the parameters' values -/
theorem fn_of {CX : CXT} {P : Program} {w : World} {K : PySem.W.Frag} {mg : Str → Option Value} {base : Heap} {k : Nat} {f : Addr} {name qual : Str} {params : Arguments} {body : List Stmt} {scope : Scope} {dV kV doc pm cdv ct oc : Value} {an od : Option Addr}
    {osl : Array (Option Value)} {N ps : List Str} {sp : Sp} (lk : K.lookup f = some ⟨oc, od, .func (PySem.W.fnOf name qual params body scope dV kV doc pm an cdv ct), osl⟩) (hcd : PySem.W.codeIn K cdv qual = true) (S : FnScope N ps scope)
    (len : ∀ vs H Q E, sp vs H Q E → vs.length = ps.length)
    (hbody : ∀ (A : Around) (outer : List Env) (s : Shared) (H : Hp) (vs : List V) (Q : VK) (E : XK), Room k (A.deeper (envOfC qual scope s.heap.objs.size f cdv)) → sp vs H Q E →
      ∃ t, PSs (cxOf CX P w K mg base N qual scope f cdv A outer s H E) body t ∧ t { nx := fun _ H' => Q .non H', rt := Q } (start N vs) H) :
    FnOk P w K mg base CX (k + 1) f (PySem.W.fnOf name qual params body scope dV kV doc pm an cdv ct) ps sp := by
  refine ⟨len, fun A outer s H args us vs Q E hr e0 hb r hsp => ?_⟩
  have hl := len _ _ _ _ hsp
  have KX : K.In s.heap := e0.mod.kin.keeps fun b o e => (e0.bs b o e).1
  have lim : s.heap.NoLimit := e0.mod.nolimit.keeps fun b o e => (e0.bs b o e).1
  have hkind : ∀ y ∈ ps.zip us, scope.names.lookup y.1 = some .local ∨ (scope.names.lookup y.1 = some .cell ∧ ((cellsFrom (s.heap.objs.size + 1) scope.names []).lookup y.1).isSome = true) := fun ⟨n, v⟩ hy => by
    rcases S.par n (List.of_mem_zip hy).1 with q | q
    · exact .inl q
    · exact .inr ⟨q, PySem.W.cellsFrom_some _ _ _ (.inl q)⟩
  refine codeAny_call_function hr.depth (KX _ _ lk) rfl S.co S.gen rfl (PySem.W.codeRec_of KX hcd) (hb _ _ _ _ ?_)
  refine wpAny_newFunctionEnv_cells S.kind hkind fun env he s1 x => ?_
  subst he
  refine ⟨lim.keeps x.toInCall.keep, codeAny_func ?_⟩
  obtain ⟨t, ht, hq⟩ := hbody A outer s H vs Q E (hr.deeper _) hsp
  have I : Inv (cxOf CX P w K mg base N qual scope f cdv A outer s H E) [] (start N vs) H s1 := inv_start S hr.hd e0 hl r x
  refine wpAny_mono (ht [] s1 (start N vs) H _ I hq) (fun fl s' hs => ?_) fun e s' hs => hs
  have fin : ∀ {σ' : St} {H' : Hp} {v : V} {u : Value}, Inv (cxOf CX P w K mg base N qual scope f cdv A outer s H E) [] σ' H' s' → RelV v u → Q v H' → CE outer P w H s Q u s' :=
    fun {σ' H' v u} J rv q => ⟨v, H', J.os, J.bare, J.base, J.hok, rv, q⟩
  cases fl with
  | ret u =>
    obtain ⟨v, σ', H', J, rv, q⟩ := hs
    exact fin J rv q
  | next =>
    obtain ⟨σ', H', J, q⟩ := hs
    exact fin (v := V.non) (u := Value.none) J rfl q
  | brk =>
    obtain ⟨_, _, _, q⟩ := hs
    exact False.elim q
  | cont =>
    obtain ⟨_, _, _, q⟩ := hs
    exact False.elim q
end L2

namespace L2
open PySem PySem.Spec PyProof.Rows
section
variable {X : Cx} {x : Str} {p pos : Pos} {e : Expr} {es : List Expr} {t : TA} {id T : String} {r : List V → Hp → VK → Prop}

def tCB (r : List V → Hp → VK → Prop) (t : TA) : TE := fun σ H Q => t σ H fun vs H1 => r vs H1 Q
/-- f(e, ..), f a built-in function -/
theorem pe_callB (hc : CallR X (.builtin id) r) (hg : Gl X x) (hm : X.mg x = none) (hv : bootBuiltins x = some (.builtin id)) (ha : PA X (e :: es) t) (hn : x ≠ "__name__" := by decide) (hdb : (x == ("__debug__" : Str)) = false := by decide)
    (he : starEach (e :: es) X.env = (false, eval e X.env) :: starEach es X.env := by rfl) (hpl : (backTo pos (starEach es X.env)).any (·.1) = false := by rfl) : PE X (.Call (.Name x p) (e :: es) [] pos) (tCB r t) := by
  intro pins s σ H Q I h
  refine wpAny_Call_Name_kw (ld_blt I hg hm hv ?_ hn hdb)
  exact PyProof.Rows.callWith_builtin1 (thn (ha pos pins s σ H _ I h) fun us s1 ⟨vs, H1, I1, r1, q1⟩ => hc pins s1 σ H1 vs us Q I1 r1 q1) he hpl
/-- T(e, ..), T a built-in type -/
theorem pe_callTy (hc : CallR X (.type T) r) (hg : Gl X x) (hm : X.mg x = none) (hv : bootBuiltins x = some (.type T)) (ha : PA X (e :: es) t) (hn : x ≠ "__name__" := by decide) (hdb : (x == ("__debug__" : Str)) = false := by decide)
    (he : starEach (e :: es) X.env = (false, eval e X.env) :: starEach es X.env := by rfl) (hpl : (backTo pos (starEach es X.env)).any (·.1) = false := by rfl) : PE X (.Call (.Name x p) (e :: es) [] pos) (tCB r t) := by
  intro pins s σ H Q I h
  refine wpAny_Call_Name_kw (ld_blt I hg hm hv ?_ hn hdb)
  exact PyProof.Rows.callWith_type1 (thn (ha pos pins s σ H _ I h) fun us s1 ⟨vs, H1, I1, r1, q1⟩ => hc pins s1 σ H1 vs us Q I1 r1 q1) he hpl
end
end L2

namespace L2
open PySem PySem.Spec PyProof.Rows

/-! ### lists of pairs as tables -/
section
variable {κ : Type} [DecidableEq κ]
def valV (kvs : List (κ × V)) (k : κ) : Option V := (kvs.find? fun kv => decide (kv.1 = k)).map (·.2)
/-- in its place, or at the end -/
def putK (kvs : List (κ × V)) (k : κ) (v : V) : List (κ × V) :=
  if (kvs.any fun kv => decide (kv.1 = k)) = true then kvs.map (fun kv => if kv.1 = k then (kv.1, v) else kv) else kvs ++ [(k, v)]
def dropK (kvs : List (κ × V)) (k : κ) : List (κ × V) := kvs.filter fun kv => decide (kv.1 ≠ k)

theorem valV_pos {p : κ × V} {r : List (κ × V)} {k : κ} (e : p.1 = k) : valV (p :: r) k = some p.2 := by simp [valV, List.find?_cons, e]
theorem valV_neg {p : κ × V} {r : List (κ × V)} {k : κ} (e : ¬ p.1 = k) : valV (p :: r) k = valV r k := by simp [valV, List.find?_cons, e]
theorem valV_any (k : κ) : ∀ kvs : List (κ × V), (kvs.any fun kv => decide (kv.1 = k)) = (valV kvs k).isSome
  | [] => rfl
  | p :: r => by
    rw [List.any_cons]
    by_cases e : p.1 = k
    · simp only [valV_pos e, decide_eq_true e, Bool.true_or, Option.isSome_some]
    · rw [valV_neg e, decide_eq_false e, Bool.false_or]; exact valV_any k r
theorem RelO.isSome_eq {o : Option V} {u : Option Value} (r : RelO o u) : o.isSome = u.isSome := by
  cases o with
  | none => cases u with
    | none => rfl
    | some _ => exact (show False from r).elim
  | some _ => cases u with
    | none => exact (show False from r).elim
    | some _ => rfl
theorem RelO.getD {o : Option V} {u : Option Value} {d : V} {d' : Value} (r : RelO o u) (rd : RelV d d') : RelV (o.getD d) (u.getD d') := by
  cases o with
  | none => cases u with
    | none => exact rd
    | some _ => exact (show False from r).elim
  | some _ => cases u with
    | none => exact (show False from r).elim
    | some _ => exact r

/-- raw tables of the same keys -/
theorem KV.val {kvs : List (κ × V)} {vs : List (κ × Value)} (r : KV kvs vs) (k : κ) : RelO (valV kvs k) (valueAt vs k) := by
  unfold KV at r
  induction r with
  | nil => exact True.intro
  | @cons p q ps qs h t ih =>
    obtain ⟨h1, h2⟩ := h
    by_cases e : p.1 = k
    · have e' : q.1 = k := h1.symm.trans e
      have b : valueAt (q :: qs) k = some q.2 := by simp [valueAt, List.find?_cons, e']
      rw [valV_pos e, b]; exact h2
    · have e' : ¬ q.1 = k := fun z => e (h1.trans z)
      have b : valueAt (q :: qs) k = valueAt qs k := by simp [valueAt, List.find?_cons, e']
      rw [valV_neg e, b]; exact ih
theorem KV.any {kvs : List (κ × V)} {vs : List (κ × Value)} (r : KV kvs vs) (k : κ) : (kvs.any fun kv => decide (kv.1 = k)) = vs.any fun kv => decide (kv.1 = k) := by
  unfold KV at r
  induction r with
  | nil => rfl
  | cons h t ih => rw [List.any_cons, List.any_cons, ih, h.1]
theorem KV.repl {kvs : List (κ × V)} {vs : List (κ × Value)} (r : KV kvs vs) (k : κ) {y : V} {u : Value} (ry : RelV y u) :
    KV (kvs.map fun kv => if kv.1 = k then (kv.1, y) else kv) (vs.map fun kv => if kv.1 = k then (kv.1, u) else kv) := by
  unfold KV at r ⊢
  induction r with
  | nil => exact .nil
  | @cons p q ps qs h t ih =>
    rw [List.map_cons, List.map_cons]
    refine .cons ?_ ih
    obtain ⟨h1, h2⟩ := h
    by_cases e : p.1 = k
    · rw [if_pos e, if_pos (h1.symm.trans e)]; exact ⟨h1, ry⟩
    · rw [if_neg e, if_neg (fun z => e (h1.trans z))]; exact ⟨h1, h2⟩
theorem KV.put {kvs : List (κ × V)} {vs : List (κ × Value)} (r : KV kvs vs) (k : κ) {y : V} {u : Value} (ry : RelV y u) : KV (putK kvs k y) (stored vs k u) := by
  unfold putK stored
  rw [r.any k]
  by_cases e : (vs.any fun kv => decide (kv.1 = k)) = true
  · rw [if_pos e, if_pos e]; exact r.repl k ry
  · rw [if_neg e, if_neg e]; exact Paired.snoc r ⟨rfl, ry⟩
theorem KV.drop {kvs : List (κ × V)} {vs : List (κ × Value)} (r : KV kvs vs) (k : κ) : KV (dropK kvs k) (without vs k) := by
  unfold KV at r ⊢
  unfold dropK without
  induction r with
  | nil => exact .nil
  | @cons p q ps qs h t ih =>
    obtain ⟨h1, h2⟩ := h
    rw [List.filter_cons, List.filter_cons]
    by_cases e : p.1 = k
    · have a : ¬ decide (p.1 ≠ k) = true := by simp [e]
      have b : ¬ decide (q.1 ≠ k) = true := by simp [h1.symm.trans e]
      rw [if_neg a, if_neg b]; exact ih
    · have e' : ¬ q.1 = k := fun z => e (h1.trans z)
      have a : decide (p.1 ≠ k) = true := by simp [e]
      have b : decide (q.1 ≠ k) = true := by simp [e']
      rw [if_pos a, if_pos b]; exact .cons ⟨h1, h2⟩ ih
theorem KV.keys {kvs : List (κ × V)} {vs : List (κ × Value)} (r : KV kvs vs) : kvs.map (·.1) = vs.map (·.1) := by
  unfold KV at r
  induction r with
  | nil => rfl
  | cons h t ih => rw [List.map_cons, List.map_cons, ih, h.1]
theorem KV.length {kvs : List (κ × V)} {vs : List (κ × Value)} (r : KV kvs vs) : kvs.length = vs.length := Paired.length r
end


/-! ### a tracked dict, its keys ints and texts or tuples of these -/
/-- raw entries of a dict with tuple keys -/
abbrev KT (H : Hp) : List (List Key × V) → List (List Key × Addr × Value) → Prop := Paired fun p q => p.1 = q.1 ∧ H q.2.1 = some (.tup (p.1.map kV)) ∧ RelV p.2 q.2.2
theorem KT.val {H : Hp} {kvs : List (List Key × V)} {xs : List (List Key × Addr × Value)} (r : KT H kvs xs) (k : List Key) : RelO (valV kvs k) ((atKey xs k).map (·.2)) := by
  induction r with
  | nil => exact True.intro
  | @cons p q ps qs h t ih =>
    obtain ⟨h1, _, h2⟩ := h
    by_cases e : p.1 = k
    · have e' : q.1 = k := h1.symm.trans e
      have b : atKey (q :: qs) k = some q.2 := by simp [atKey, List.find?_cons, e']
      rw [valV_pos e, b]; exact h2
    · have e' : ¬ q.1 = k := fun z => e (h1.trans z)
      have b : atKey (q :: qs) k = atKey qs k := by simp [atKey, List.find?_cons, e']
      rw [valV_neg e, b]; exact ih
theorem KT.repl {H : Hp} {kvs : List (List Key × V)} {xs : List (List Key × Addr × Value)} (r : KT H kvs xs) (k : List Key) {y : V} {u : Value} (ry : RelV y u) :
    KT H (kvs.map fun kv => if kv.1 = k then (kv.1, y) else kv) (xs.map (putAt k u)) := by
  induction r with
  | nil => exact .nil
  | @cons p q ps qs h t ih =>
    rw [List.map_cons, List.map_cons]
    refine .cons ?_ ih
    obtain ⟨h1, h2, h3⟩ := h
    unfold putAt
    by_cases e : p.1 = k
    · rw [if_pos e, if_pos (h1.symm.trans e)]; exact ⟨h1, h2, ry⟩
    · rw [if_neg e, if_neg (fun z => e (h1.trans z))]; exact ⟨h1, h2, h3⟩
theorem KT.put {H : Hp} {kvs : List (List Key × V)} {xs : List (List Key × Addr × Value)} (r : KT H kvs xs) (k : List Key) {b : Addr} {y : V} {u : Value} (hb : H b = some (.tup (k.map kV))) (ry : RelV y u) :
    KT H (putK kvs k y) (storedH xs k b u) := by
  have e : (kvs.any fun kv => decide (kv.1 = k)) = (atKey xs k).isSome := by
    rw [valV_any, (r.val k).isSome_eq, Option.isSome_map]
  unfold putK storedH
  rw [e]
  by_cases q : (atKey xs k).isSome = true
  · rw [if_pos q, if_pos q]; exact r.repl k ry
  · rw [if_neg q, if_neg q]; exact Paired.snoc r ⟨rfl, hb, ry⟩
theorem KT.keeps {H H' : Hp} {kvs : List (List Key × V)} {xs : List (List Key × Addr × Value)} (r : KT H kvs xs) (ht : ∀ b ys, H b = some (.tup ys) → H' b = some (.tup ys)) : KT H' kvs xs :=
  Paired.mapP r fun _ _ z => ⟨z.1, ht _ _ z.2.1, z.2.2⟩

section
variable {P : Program} {w : World} {H : Hp} {h : Heap} {a : Addr}
end

/-- what the dict at a holds at the key y -/
def DGet (H : Hp) (a : Addr) (y : V) (r : Option V) : Prop :=
  (∃ kvs k, Rd H a (.dK kvs) ∧ y = kV k ∧ r = valV kvs k) ∨ ∃ kvs k b, Rd H a (.dT kvs) ∧ y = .ref b ∧ H b = some (.tup (k.map kV)) ∧ r = valV kvs k
/-- the heap behind a[y] = v -/
def DPut (H : Hp) (a : Addr) (y v : V) (H' : Hp) : Prop :=
  (∃ kvs k, H a = some (.dK kvs) ∧ y = kV k ∧ kvs.length < sizeLine ∧ H' = upd H a (.dK (putK kvs k v))) ∨
  ∃ kvs k b, H a = some (.dT kvs) ∧ y = .ref b ∧ H b = some (.tup (k.map kV)) ∧ kvs.length < sizeLine ∧ H' = upd H a (.dT (putK kvs k v))
theorem DGet.k {H : Hp} {a : Addr} {kvs : List (Key × V)} {k : Key} (e : H a = some (.dK kvs)) : DGet H a (kV k) (valV kvs k) := .inl ⟨kvs, k, .inl e, rfl, rfl⟩
theorem DGet.t {H : Hp} {a b : Addr} {kvs : List (List Key × V)} {k : List Key} (e : H a = some (.dT kvs)) (eb : H b = some (.tup (k.map kV))) : DGet H a (.ref b) (valV kvs k) := .inr ⟨kvs, k, b, .inl e, rfl, eb, rfl⟩
theorem DPut.k {H : Hp} {a : Addr} {kvs : List (Key × V)} {k : Key} {v : V} (e : H a = some (.dK kvs)) (hl : kvs.length < sizeLine) : DPut H a (kV k) v (upd H a (.dK (putK kvs k v))) := .inl ⟨kvs, k, e, rfl, hl, rfl⟩
theorem DPut.t {H : Hp} {a b : Addr} {kvs : List (List Key × V)} {k : List Key} {v : V} (e : H a = some (.dT kvs)) (eb : H b = some (.tup (k.map kV))) (hl : kvs.length < sizeLine) :
    DPut H a (.ref b) v (upd H a (.dT (putK kvs k v))) := .inr ⟨kvs, k, b, e, rfl, eb, hl, rfl⟩


section
variable {X : Cx} {pins : List (Addr × Obj)} {σ : St} {H : Hp} {s : Shared} {a : Addr} {y v : V} {u r : Value} {o : Option V} {A : Around} {E : Value → Shared → Prop}

end

section
variable {X : Cx} {pins : List (Addr × Obj)} {σ : St} {H : Hp} {s : Shared} {a : Addr} {kvs : List (Key × V)} {k : Key} {u : Value} {A : Around} {E : Value → Shared → Prop}
end


/-! ### readings and rules -/
/-- the element of a subscription, not a slice -/
def NoSl (i : Expr) : Prop := ∀ ov iv, subscripted i false ov iv = operate [ov, iv] (getItem ov iv)
/-- d[y] -/
def tDGet (td ty : TE) : TE := fun σ H Q => td σ H fun x H1 => ty σ H1 fun y H2 => ∃ a v, x = .ref a ∧ DGet H2 a y (some v) ∧ Q v H2
/-- y in d, y not in d -/
def tDIn (ty td : TE) : TE := fun σ H Q => ty σ H fun y H1 => td σ H1 fun x H2 => ∃ a o, x = .ref a ∧ DGet H2 a y o ∧ Q (.bl o.isSome) H2
def tDNotIn (ty td : TE) : TE := fun σ H Q => ty σ H fun y H1 => td σ H1 fun x H2 => ∃ a o, x = .ref a ∧ DGet H2 a y o ∧ Q (.bl (!o.isSome)) H2
/-- d[y] = v -/
def sDPut (td ty tv : TE) : TS := fun D σ H => tv σ H fun v H1 => td σ H1 fun x H2 => ty σ H2 fun y H3 => ∃ a H4, x = .ref a ∧ DPut H3 a y v H4 ∧ D.nx σ H4
/-- d[y] op= v -/
def sDAug (td ty tv : TE) (rd : V → V → Hp → VK → Prop) : TS := fun D σ H => td σ H fun x H1 => ty σ H1 fun y H2 => ∃ a v, x = .ref a ∧ DGet H2 a y (some v) ∧
  tv σ H2 fun y2 H3 => rd v y2 H3 fun z H4 => ∃ H5, DPut H4 a y z H5 ∧ D.nx σ H5
/-- del d[y] -/
def sDDel (td ty : TE) : TS := fun D σ H => td σ H fun x H1 => ty σ H1 fun y H2 => ∃ a kvs k, x = .ref a ∧ H2 a = some (.dK kvs) ∧ y = kV k ∧ (valV kvs k).isSome = true ∧ D.nx σ (upd H2 a (.dK (dropK kvs k)))

section
variable {X : Cx} {o i e value : Expr} {pos pos' tpos : Pos} {td ty tv : TE}
end


/-! ### displays -/
/-- {}, to be a dict of the kind that is wanted -/
def tDNewK : TE := fun _ H Q => ∀ p, H p = none → Q (.ref p) (upd H p (.dK []))
def tDNewT : TE := fun _ H Q => ∀ p, H p = none → Q (.ref p) (upd H p (.dT []))
section
variable {X : Cx} {pos : Pos}
end

/-- the pairs of a display, from the left -/
def tPairs : List (TE × TE) → St → Hp → (List (V × V) → Hp → Prop) → Prop
  | [], _, H, Q => Q [] H
  | (tk, tv) :: r, σ, H, Q => tk σ H fun x H1 => tv σ H1 fun y H2 => tPairs r σ H2 fun ps H3 => Q ((x, y) :: ps) H3
abbrev VV : List (V × V) → List (Value × Value) → Prop := Paired fun p q => RelV p.1 q.1 ∧ RelV p.2 q.2
def PPs (X : Cx) (pos : Pos) (keys : List (Option Expr)) (values : List Expr) (trs : List (TE × TE)) : Prop :=
  ∀ (pins : List (Addr × Obj)) (s : Shared) (σ : St) (H : Hp) (Q : List (V × V) → Hp → Prop), Inv X pins σ H s → tPairs trs σ H Q →
    wpAny (model X.prog X.w) X.A (evalPairs (pairTrees keys values X.env pos)) (fun vs s' => ∃ ps H', Inv X pins σ H' s' ∧ VV ps vs ∧ Q ps H') X.xe s
def mergeK (kvs more : List (Key × V)) : List (Key × V) := more.foldl (fun acc kv => putK acc kv.1 kv.2) kvs
/-- {k: v, ..} with keys ints and texts; the new dict stands empty while the pairs are made -/
def tDisp (trs : List (TE × TE)) : TE := fun σ H Q => ∀ p, H p = none → tPairs trs σ (upd H p (.dK [])) fun ps H2 => H2 p = some (.dK []) ∧ ∃ kvs : List (Key × V), ps = kvs.map (fun kv => (kV kv.1, kv.2)) ∧ kvs.length ≤ 15 ∧ Q (.ref p) (upd H2 p (.dK (mergeK [] kvs)))
/-! ### methods -/
/-- a method call o.m(e) of a built-in, with one argument: what must be seen of the text -/
structure M1 (X : Cx) (o : Expr) (m : Str) (apos : Pos) (e : Expr) (cpos : Pos) : Prop where
  base : attributeBase o m X.env (eval o X.env) = eval o X.env
  few : ((backTo cpos (starEach [e] X.env)).all (fun x => !x.1) && (backToKw cpos (keywordEach [] X.env)).all (fun x => x.1.isSome)
    && decide (([e] : List Expr).length + ([] : List Keyword).length + (if ([] : List Keyword).isEmpty then 0 else 1) < 30)) = true
  line : (apos.endLine == cpos.line) = true
  trees : backTo cpos (starEach [e] X.env) = [(false, eval e X.env)]
structure M2 (X : Cx) (o : Expr) (m : Str) (apos : Pos) (e f : Expr) (cpos : Pos) : Prop where
  base : attributeBase o m X.env (eval o X.env) = eval o X.env
  few : ((backTo cpos (starEach [e, f] X.env)).all (fun x => !x.1) && (backToKw cpos (keywordEach [] X.env)).all (fun x => x.1.isSome)
    && decide (([e, f] : List Expr).length + ([] : List Keyword).length + (if ([] : List Keyword).isEmpty then 0 else 1) < 30)) = true
  line : (apos.endLine == cpos.line) = true
  trees : backTo cpos (starEach [e, f] X.env) = [(false, eval e X.env), (false, eval f X.env)]

/-- a is a dict, whatever its keys -/
def IsD (H : Hp) (a : Addr) : Prop := (∃ kvs, Rd H a (.dK kvs)) ∨ ∃ kvs, Rd H a (.dT kvs)
section
variable {X : Cx} {pins : List (Addr × Obj)} {σ : St} {H : Hp} {s : Shared} {a : Addr} {y d : V} {u r : Value} {o : Option V} {A : Around} {E : Value → Shared → Prop}
end

def tDGet1 (td ty : TE) : TE := fun σ H Q => td σ H fun x H1 => ∃ a, x = .ref a ∧ IsD H1 a ∧ ty σ H1 fun y H2 => ∃ o, DGet H2 a y o ∧ Q (o.getD .non) H2
def tDGet2 (td ty tx : TE) : TE := fun σ H Q => td σ H fun x H1 => ∃ a, x = .ref a ∧ IsD H1 a ∧ ty σ H1 fun y H2 => tx σ H2 fun z H3 => ∃ o, DGet H3 a y o ∧ Q (o.getD z) H3
/-- d.pop(k): there; d.pop(k, x): there or not -/
def tDPop1 (td ty : TE) : TE := fun σ H Q => td σ H fun x H1 => ∃ a, x = .ref a ∧ IsD H1 a ∧ ty σ H1 fun y H2 => ∃ kvs k v, H2 a = some (.dK kvs) ∧ y = kV k ∧ valV kvs k = some v ∧ Q v (upd H2 a (.dK (dropK kvs k)))
def tDPop2 (td ty tx : TE) : TE := fun σ H Q => td σ H fun x H1 => ∃ a, x = .ref a ∧ IsD H1 a ∧ ty σ H1 fun y H2 => tx σ H2 fun z H3 => ∃ kvs k, H3 a = some (.dK kvs) ∧ y = kV k ∧
  (∀ v, valV kvs k = some v → Q v (upd H3 a (.dK (dropK kvs k)))) ∧ (valV kvs k = none → Q z H3)
section
variable {X : Cx} {o e f : Expr} {apos cpos : Pos} {td ty tx : TE}
end

/-! ### dict(d): a copy -/
section
variable {X : Cx} {pins : List (Addr × Obj)} {σ : St} {H : Hp} {s : Shared} {a : Addr} {kvs : List (Key × V)} {A : Around} {E : Value → Shared → Prop}
end


section
variable {X : Cx} {pins : List (Addr × Obj)} {σ : St} {H : Hp} {s : Shared} {a : Addr} {y : V} {u : Value} {A : Around} {E : Value → Shared → Prop}
end
end L2

namespace HT
open PySem PyProof.Rows

/-- t < u of tuples of ints -/
def lexLt : List Int → List Int → Bool
  | [], [] => false
  | [], _ :: _ => true
  | _ :: _, [] => false
  | x :: xs, y :: ys => if x = y then lexLt xs ys else decide (x < y)
section
open PySem.SeqAt
open PySem.AutoSeq1 (wpAny_loadPart')
open PySem.MeetsSeq PySem.MeetsSeq2 PySem.MeetsSeq3

end

section
variable {prog : Program} {w : World} {A : Around} {E : Value → Shared → Prop} {s : Shared}

/-- t + u, t not empty -/
theorem cat_tup {t b : Addr} {vs ws : List Value} {Q : Value → Shared → Prop} (ht : IsTup s.heap t vs.toArray) (hb : IsTup s.heap b ws.toArray) (hv : vs ≠ [])
    (h1 : ws = [] → Q (.ref t) s) (h2 : ws ≠ [] → Q (.ref s.heap.objs.size) { s with heap := s.heap.push { cls := .type "tuple", data := .seq (vs ++ ws).toArray } })
    (hsz : vs.length + ws.length ≤ sizeLine) : wpAny (model prog w) A (binaryOp .Add (.ref t) (.ref b)) Q E s := by
  obtain ⟨⟨cls, dd, data, sl⟩, ho, hc, n, hd⟩ := id ht
  obtain ⟨⟨cls2, dd2, data2, sl2⟩, ho2, hc2, n2, hd2⟩ := id hb
  simp only at hc hd hc2 hd2
  subst hc hd hc2 hd2
  have e : vs.toArray ++ ws.toArray = (vs ++ ws).toArray := by simp
  by_cases hw : ws = []
  · exact concat_meets ⟨_, ho, rfl⟩ ⟨_, ho2, rfl⟩ noFill_tuple_add seq_tuple_add PySem.F.slot_tuple_add PySem.F.entry_tuple_add (PySem.F.args_tuple_add_2 _ _)
      (tuple_addW1 t b vs.toArray ws.toArray n n2 dd dd2 sl sl2 (by simpa using hv) (by simp [hw])) ⟨ho, ho2, h1 hw⟩
  · refine concat_meets ⟨_, ho, rfl⟩ ⟨_, ho2, rfl⟩ noFill_tuple_add seq_tuple_add PySem.F.slot_tuple_add PySem.F.entry_tuple_add (PySem.F.args_tuple_add_2 _ _)
      (tuple_addW2 t b vs.toArray ws.toArray n n2 dd dd2 sl sl2 (by simpa using hv) (by simpa using hw) (by rw [List.size_toArray, List.size_toArray]; exact hsz)) ⟨ho, ho2, ?_⟩
    rw [e]
    exact h2 hw

/-! ### t[a:b], not the whole -/
/-- a slice's bound as a place among n (d where it is left out) -/
def sIx (n d : Nat) : Option Int → Nat
  | none => d
  | some v => if v < 0 then (v + (n : Int)).toNat else min v.toNat n
theorem sIx_none (n d : Nat) : sIx n d none = d := rfl
theorem sIx_nat (n d k : Nat) : sIx n d (some (k : Int)) = min k n := by
  show (if (k : Int) < 0 then ((k : Int) + (n : Int)).toNat else min (k : Int).toNat n) = min k n
  rw [if_neg (by omega), Int.toNat_natCast]
end
end HT

namespace L2
open PySem PySem.Spec PyProof.Rows

/-! ### the parts of a slice -/
abbrev TO := St → Hp → (Option Int → Hp → Prop) → Prop
/-- a slice's part (left out, or an int) -/
def PO (X : Cx) (e : Option Expr) (t : TO) : Prop :=
  ∀ (pins : List (Addr × Obj)) (s : Shared) (σ : St) (H : Hp) (Q : Option Int → Hp → Prop), Inv X pins σ H s → t σ H Q →
    wpAny (model X.prog X.w) X.A (evalPart e X.env) (fun u s' => ∃ o H', Inv X pins σ H' s' ∧ IsPart u o ∧ Q o H') X.xe s
def tNoPart : TO := fun _ H Q => Q none H
def tPart (t : TE) : TO := fun σ H Q => t σ H fun x H1 => ∃ i, x = .int i ∧ Q (some i) H1

section
variable {X : Cx} {e : Expr} {te : TE} {lo hi : Option Expr} {tl th : TO} {pos p2 : Pos}

/-- what a slice of a value is, by values: the slice object stands at sl -/
def SlR (X : Cx) (r : V → Option Int → Option Int → Hp → VK → Prop) : Prop :=
  ∀ (pins : List (Addr × Obj)) (s : Shared) (σ : St) (H : Hp) (x : V) (v vl vu : Value) (lo hi : Option Int) (sl : Addr) (Q : VK), Inv X pins σ H s → RelV x v → s.heap.IsSliceOf sl vl vu .none → IsPart vl lo → IsPart vu hi → r x lo hi H Q →
    ∃ T id, typeLookup (.type T) "__getitem__" = pure (some (.builtin id)) ∧ s.TypeIs v T ∧ wpAny (model X.prog X.w) X.A (getItem v (.ref sl)) (EP X pins σ Q) X.xe s
theorem SlR.or {r r' : V → Option Int → Option Int → Hp → VK → Prop} (h : SlR X r) (h' : SlR X r') : SlR X (fun x lo hi H Q => r x lo hi H Q ∨ r' x lo hi H Q) := by
  intro pins s σ H x v vl vu lo hi sl Q I rx hs pl pu q
  rcases q with q | q
  · exact h pins s σ H x v vl vu lo hi sl Q I rx hs pl pu q
  · exact h' pins s σ H x v vl vu lo hi sl Q I rx hs pl pu q
def tSl (r : V → Option Int → Option Int → Hp → VK → Prop) (te : TE) (tl th : TO) : TE := fun σ H Q => te σ H fun x H1 => tl σ H1 fun l H2 => th σ H2 fun u H3 => r x l u H3 Q
/-- the items of xs[lo:hi] -/
def cutV (xs : List V) (lo hi : Option Int) : List V := (xs.drop (HT.sIx xs.length 0 lo)).take (HT.sIx xs.length xs.length hi - HT.sIx xs.length 0 lo)
/-- t[lo:hi], not the whole of it (the whole would be t itself) -/
def rSlT (K : PySem.W.Frag) : V → Option Int → Option Int → Hp → VK → Prop := fun x lo hi H Q => ∃ a xs, x = .ref a ∧ SqT K H a xs ∧
  ¬ (HT.sIx xs.length 0 lo = 0 ∧ HT.sIx xs.length xs.length hi = xs.length) ∧ ∀ p, H p = none → Q (.ref p) (upd H p (.tup (cutV xs lo hi)))
/-! ### t < u, t + u -/
def rLtT (K : PySem.W.Frag) : R2 := fun x y H Q => ∃ a b ns ms, x = .ref a ∧ y = .ref b ∧ SqT K H a (ns.map V.int) ∧ SqT K H b (ms.map V.int) ∧ Q (.bl (HT.lexLt ns ms)) H
/-- t + u, t not empty: u empty gives t itself -/
def rCatT (K : PySem.W.Frag) : R2 := fun x y H Q => ∃ a b xs ys, x = .ref a ∧ y = .ref b ∧ SqT K H a xs ∧ SqT K H b ys ∧ xs ≠ [] ∧ xs.length + ys.length ≤ sizeLine ∧
  (ys = [] → Q (.ref a) H) ∧ (ys ≠ [] → ∀ p, H p = none → Q (.ref p) (upd H p (.tup (xs ++ ys))))
theorem Vals.nil_iff {xs : List V} {us : List Value} (r : Vals xs us) : us = [] ↔ xs = [] := by
  cases r with
  | nil => simp
  | cons _ _ => simp
theorem op_catT : OpR X (binaryOp .Add) (rCatT X.K) := by
  intro pins s σ H x y v u Q I rx ry h
  obtain ⟨a, b, xs, ys, rfl, rfl, ha, hb, hx, hz, q1, q2⟩ := h
  cases rx
  cases ry
  obtain ⟨its, r1, p1, _⟩ := I.tuple ha
  obtain ⟨its2, r2, p2, _⟩ := I.tuple hb
  refine HT.cat_tup p1 p2 (fun z => hx (r1.nil_iff.mp z)) (fun z => ⟨.ref a, H, I, rfl, q1 (r2.nil_iff.mp z)⟩) (fun z => ?_) (by rw [← r1.length, ← r2.length]; exact hz)
  refine ⟨.ref s.heap.objs.size, _, I.laid (t' := s.toks) (o := .tup (xs ++ ys)) (fun b ob q => Heap.get?_push_of_some _ q) (Nat.le_refl _) ?_, rfl, q2 (fun w => z (r2.nil_iff.mpr w)) _ (I.hok.fresh (Nat.le_refl _))⟩
  exact ⟨by rw [List.length_append]; exact hz, _, r1.append r2, IsTup.new _ _⟩
end
end L2

namespace L2
open PySem PySem.Spec PyProof.Rows

/-! ### places -/
/-- the place that an index of any sign means -/
def ixN (n : Nat) (i : Int) : Option Nat := if 0 ≤ i then (if i < n then some i.toNat else none) else if -(n : Int) ≤ i then some (i + n).toNat else none
def atI {α : Type} (xs : List α) (i : Int) : Option α := (ixN xs.length i).bind fun j => xs[j]?
theorem ixN_seq {n : Nat} {i : Int} {j : Nat} (h : ixN n i = some j) : seqIndex? i n = some j ∧ j < n ∧ -(n : Int) ≤ i ∧ i < n := by
  unfold ixN at h
  by_cases h0 : 0 ≤ i
  · rw [if_pos h0] at h
    by_cases h1 : i < n
    · rw [if_pos h1] at h
      have e : i.toNat = j := Option.some.inj h
      exact ⟨by rw [seqIndex_of h0 h1, e], by omega, by omega, h1⟩
    · rw [if_neg h1] at h; cases h
  · rw [if_neg h0] at h
    by_cases h1 : -(n : Int) ≤ i
    · rw [if_pos h1] at h
      have e : (i + n).toNat = j := Option.some.inj h
      exact ⟨by rw [seqIndex_neg (by omega) h1, e], by omega, h1, by omega⟩
    · rw [if_neg h1] at h; cases h
theorem atI_get {α : Type} {xs : List α} {i : Int} {v : α} (h : atI xs i = some v) : ∃ j, seqIndex? i xs.length = some j ∧ xs[j]? = some v ∧ j < xs.length ∧ -(xs.length : Int) ≤ i ∧ i < xs.length := by
  unfold atI at h
  cases e : ixN xs.length i with
  | none => rw [e] at h; cases h
  | some j =>
    rw [e] at h
    obtain ⟨h1, h2, h3, h4⟩ := ixN_seq e
    exact ⟨j, h1, h, h2, h3, h4⟩
theorem atI_nat {α : Type} {xs : List α} {j : Nat} {v : α} (h : xs[j]? = some v) : atI xs (j : Int) = some v := by
  have hj : j < xs.length := (List.getElem?_eq_some_iff.mp h).1
  have e : ixN xs.length (j : Int) = some j := by
    unfold ixN
    rw [if_pos (by omega), if_pos (by omega)]; simp
  unfold atI; rw [e]; exact h
/-! ### what may be subscripted -/
/-- what stands as an index of a plain subscript -/
def PlainIx (b : Expr) : Prop := ∀ o i, subscripted b false o i = operate [o, i] (getItem o i)
/-- a subscript by values -/
def IxR (X : Cx) (r : R2) : Prop :=
  ∀ (value slice : Expr) (pins : List (Addr × Obj)) (s : Shared) (σ : St) (H : Hp) (x y : V) (v u : Value) (Q : VK), Inv X pins σ H s → RelV x v → RelV y u → r x y H Q →
    subscripted slice false v u = operate [v, u] (getItem v u) → wpAny (model X.prog X.w) X.A (subscriptTail value slice v u) (EP X pins σ Q) X.xe s
/-- a call of a builtin's method by values: the receiver, the arguments -/
def MtR (X : Cx) (id : String) (r : V → List V → Hp → VK → Prop) : Prop :=
  ∀ (pins : List (Addr × Obj)) (s : Shared) (σ : St) (H : Hp) (x : V) (xs : List V) (v : Value) (us : List Value) (Q : VK), Inv X pins σ H s → RelV x v → Vals xs us → r x xs H Q →
    wpAny (model X.prog X.w) X.A (call (.builtin id) (v :: us)) (EP X pins σ Q) X.xe s
section
variable {X : Cx} {a b : Expr} {ta tb : TE} {pos : Pos}
theorem IxR.or {r r' : R2} (h : IxR X r) (h' : IxR X r') : IxR X (fun x y H Q => r x y H Q ∨ r' x y H Q) := by
  intro value slice pins s σ H x y v u Q I rx ry q hs
  rcases q with q | q
  · exact h value slice pins s σ H x y v u Q I rx ry q hs
  · exact h' value slice pins s σ H x y v u Q I rx ry q hs
theorem MtR.or {id : String} {r r' : V → List V → Hp → VK → Prop} (h : MtR X id r) (h' : MtR X id r') : MtR X id (fun x xs H Q => r x xs H Q ∨ r' x xs H Q) := by
  intro pins s σ H x xs v us Q I rx rs q
  rcases q with q | q
  · exact h pins s σ H x xs v us Q I rx rs q
  · exact h' pins s σ H x xs v us Q I rx rs q
/-- a[b] -/
theorem pe_ix {r : R2} (hr : IxR X r) (ha : PE X a ta) (hb : PE X b tb) (hs : PlainIx b) : PE X (.Subscript a b pos) (tOp r ta tb) := by
  intro pins s σ H Q I h
  exact Subscript_ (binT ha hb I h fun v u s2 x y H2 I2 rx ry q => hr a b pins s2 σ H2 x y v u Q I2 rx ry q (hs _ _))

def rIxL (K : PySem.W.Frag) : R2 := fun x y H Q => ∃ p xs i v, x = .ref p ∧ y = .int i ∧ SqL K H p xs ∧ atI xs i = some v ∧ Q v H
def rIxT (K : PySem.W.Frag) : R2 := fun x y H Q => ∃ p xs i v, x = .ref p ∧ y = .int i ∧ SqT K H p xs ∧ atI xs i = some v ∧ Q v H
def rIxS : R2 := fun x y H Q => ∃ z i c, x = .str z ∧ y = .int i ∧ z.length ≤ sizeLine ∧ atI z.cps.toList i = some c ∧ Q (.str ⟨#[c]⟩) H
theorem ix_list : IxR X (rIxL X.K) := by
  intro value slice pins s σ H x y v u Q I rx ry h hs
  obtain ⟨p, xs, i, z, rfl, rfl, hq, he, q⟩ := h
  cases rx
  obtain ⟨t, rfl⟩ := ry
  obtain ⟨its, r, pl, hz⟩ := I.list hq
  obtain ⟨j, h1, h2, h3, h4, h5⟩ := atI_get he
  obtain ⟨w, ew, rw'⟩ := r.get h2
  have hl := r.length
  have hn := line63
  have fin : EP X pins σ Q w s := ⟨z, H, I, rw', q⟩
  by_cases h0 : 0 ≤ i
  · have hj : i.toNat = j := by
      rw [seqIndex_of h0 h5] at h1
      exact Option.some.inj h1
    exact item_listR pl.isList h0 (by omega) (by rw [hj]; simpa using ew) fin hs
  · have hj : (i + (its.toArray.size : Int)).toNat = j := by
      rw [seqIndex_neg (by omega) h4] at h1
      rw [List.size_toArray, ← hl]
      exact Option.some.inj h1
    exact subscriptTail_builtinR (x := w) pl.isList.typeIs slot_list_getitem.lookup
      (wpAny_getItem_list_neg (Q := fun r s' => r = w ∧ EP X pins σ Q r s') pl.isList (by omega) (by rw [List.size_toArray] <;> omega) (by omega) (by rw [hj]; simpa using ew) ⟨rfl, fin⟩) hs
theorem ix_tup : IxR X (rIxT X.K) := by
  intro value slice pins s σ H x y v u Q I rx ry h hs
  obtain ⟨p, xs, i, z, rfl, rfl, hq, he, q⟩ := h
  cases rx
  obtain ⟨t, rfl⟩ := ry
  obtain ⟨its, r, pl, hz⟩ := I.tuple hq
  obtain ⟨j, h1, h2, h3, h4, h5⟩ := atI_get he
  obtain ⟨w, ew, rw'⟩ := r.get h2
  have hl := r.length
  have hn := line63
  have fin : EP X pins σ Q w s := ⟨z, H, I, rw', q⟩
  exact subscriptTail_builtinR (x := w) pl.typeIs slot_tuple_getitem.lookup
    (getItem_tuple (j := j) (Q := fun r s' => r = w ∧ EP X pins σ Q r s') pl (by omega) (by omega) (by rw [List.size_toArray, ← hl]; exact h1) (by simpa using ew) ⟨rfl, fin⟩) hs
theorem ix_str : IxR X rIxS := by
  intro value slice pins s σ H x y v u Q I rx ry h hs
  obtain ⟨z, i, c, rfl, rfl, hz, he, q⟩ := h
  obtain ⟨t, rfl⟩ := rx
  obtain ⟨t', rfl⟩ := ry
  obtain ⟨j, h1, h2, h3, h4, h5⟩ := atI_get he
  have hl : z.cps.toList.length = z.length := by simp [Str.length]
  rw [hl] at h1 h4 h5
  have hn := line63
  exact tail_any (typeIs_str s z t) slot_str_getitem.lookup (getItem_str (c := c) (by
    have e1 : decide (i < -(2 ^ 63 : Int)) = false := decide_eq_false (by omega)
    have e2 : decide (i ≥ 2 ^ 63) = false := decide_eq_false (by omega)
    rw [e1, e2, Bool.or_false]) (by rw [h1]; simpa using h2) ⟨.str ⟨#[c]⟩, H, I.tok _, ⟨_, rfl⟩, q⟩) hs
/-- list, tuple or str -/
def rIx (K : PySem.W.Frag) : R2 := fun x y H Q => rIxL K x y H Q ∨ rIxT K x y H Q ∨ rIxS x y H Q
theorem ix_seq : IxR X (rIx X.K) := ix_list.or (ix_tup.or ix_str)

/-! ### xs[i] = v, any sign -/
/-- the list's object behind a store -/
theorem mapSeq_set (its : List Value) (n j : Nat) (u : Value) : Obj.mapSeq (·.setIfInBounds j u) { cls := .type "list", data := .seq its.toArray n } = { cls := .type "list", data := .seq (its.set j u).toArray n } := by
  simp [Obj.mapSeq]
theorem Inv.lst {pins : List (Addr × Obj)} {σ : St} {H : Hp} {s : Shared} {p : Addr} {xs : List V} (I : Inv X pins σ H s) (h : H p = some (.lst xs)) :
    ∃ (its : List Value) (n : Nat), Vals xs its ∧ s.heap.get? p = some { cls := .type "list", data := .seq its.toArray n } ∧ xs.length ≤ sizeLine := by
  obtain ⟨z, its, n, r, e⟩ := I.hok p _ h
  exact ⟨its, n, r, e, z⟩
/-- the list at p is written by an update of its object -/
theorem Inv.lstUpd {pins : List (Addr × Obj)} {σ : St} {H : Hp} {s : Shared} {p : Addr} {xs ys : List V} {its its' : List Value} {n n' : Nat} {f : Obj → Obj} (I : Inv X pins σ H s) (h : H p = some (.lst xs))
    (ho : s.heap.get? p = some { cls := .type "list", data := .seq its.toArray n }) (hf : f { cls := .type "list", data := .seq its.toArray n } = { cls := .type "list", data := .seq its'.toArray n' }) (r : Vals ys its') (hz : ys.length ≤ sizeLine) (t : Nat) :
    Inv X pins σ (upd H p (.lst ys)) { s with heap := s.heap.update p f, toks := t } := by
  have e : (s.heap.update p f).get? p = some { cls := .type "list", data := .seq its'.toArray n' } := by
    rw [Heap.get?_update_self f ho (by rw [hf] <;> rfl), hf]
  refine I.write (x := p) (e := p) (by rw [h]; trivial) (.inl rfl) (fun b u hb q => (Heap.get?_update_other _ _ (Ne.symm hb)).trans q) ⟨_, e⟩ ?_
  exact ⟨hz, its', n', r, e⟩
def rSetL : V → V → V → Hp → (Hp → Prop) → Prop := fun o i v H Q => ∃ p xs k j, o = .ref p ∧ i = .int k ∧ H p = some (.lst xs) ∧ ixN xs.length k = some j ∧ Q (upd H p (.lst (xs.set j v)))
theorem set_list : PSet X rSetL := by
  intro pins s σ H o i v ov iv u Q I ro ri rv h
  obtain ⟨p, xs, k, j, rfl, rfl, hp, hj, q⟩ := h
  cases ro
  obtain ⟨t, rfl⟩ := ri
  obtain ⟨its, n, r, ho, hz⟩ := I.lst hp
  obtain ⟨h1, h2, h3, h4⟩ := ixN_seq hj
  have hl := r.length
  have hn := line63
  have I' : Inv X pins σ (upd H p (.lst (xs.set j v))) { s with heap := s.heap.update p (Obj.mapSeq (·.setIfInBounds j u)) } :=
    I.lstUpd hp ho (mapSeq_set its n j u) (r.set rv j) (by rw [List.length_set]; exact hz) s.toks
  by_cases h0 : 0 ≤ k
  · have hk : k.toNat = j := by
      rw [seqIndex_of h0 h4] at h1
      exact Option.some.inj h1
    exact PySem.W.ki_setAt ho h0 (by omega) (by rw [List.size_toArray, ← hl]; exact h4) (by rw [hk]; exact ⟨_, I', q⟩)
  · have hk : (k + (its.toArray.size : Int)).toNat = j := by
      rw [seqIndex_neg (by omega) h3] at h1
      rw [List.size_toArray, ← hl]
      exact Option.some.inj h1
    exact PySem.W.ki_setBack ho (by omega) (by rw [List.size_toArray, ← hl]; exact h3) (by omega) (by rw [hk]; exact ⟨_, I', q⟩)

/-! ### slices -/
/-- xs[lo:hi] of a list: a new list -/
def rSlL (K : PySem.W.Frag) : V → Option Int → Option Int → Hp → VK → Prop := fun x lo hi H Q => ∃ a xs, x = .ref a ∧ SqL K H a xs ∧ ∀ p, H p = none → Q (.ref p) (upd H p (.lst (cutV xs lo hi)))
/-! ### in, not in: flat items -/
def flatV : V → Bool
  | .non => true
  | .bl _ => true
  | .int _ => true
  | .str _ => true
  | _ => false
/-- == of flat values -/
def eqV : V → V → Bool
  | .non, .non => true
  | .bl a, .bl b => a == b
  | .bl a, .int b => (if a then 1 else 0) == b
  | .int a, .bl b => a == (if b then 1 else 0)
  | .int a, .int b => a == b
  | .str a, .str b => a == b
  | _, _ => false
theorem eqAt_V {A : Around} {s : Shared} {y x : V} {u v : Value} (ry : RelV y u) (rx : RelV x v) (fy : flatV y = true) (fx : flatV x = true) : SeqAt.EqAt A s u v (eqV y x) := by
  cases y with
  | non =>
    cases ry
    cases x with
    | non => cases rx; exact SeqAt.EqAt.same _
    | bl b => cases rx; exact SeqAt.EqAt.none_bool b
    | int b => obtain ⟨t, rfl⟩ := rx; exact SeqAt.EqAt.none_int b t
    | str b => obtain ⟨t, rfl⟩ := rx; exact SeqAt.EqAt.none_str b t
    | _ => exact absurd (show false = true from fx) Bool.false_ne_true
  | bl a =>
    cases ry
    cases x with
    | non => cases rx; exact SeqAt.EqAt.bool_none a
    | bl b => cases rx; exact SeqAt.EqAt.bool_bool a b
    | int b => obtain ⟨t, rfl⟩ := rx; exact SeqAt.EqAt.bool_int a b t
    | str b => obtain ⟨t, rfl⟩ := rx; exact SeqAt.EqAt.bool_str a b t
    | _ => exact absurd (show false = true from fx) Bool.false_ne_true
  | int a =>
    obtain ⟨t', rfl⟩ := ry
    cases x with
    | non => cases rx; exact SeqAt.EqAt.int_none a t'
    | bl b => cases rx; exact SeqAt.EqAt.int_bool a t' b
    | int b => obtain ⟨t, rfl⟩ := rx; exact SeqAt.EqAt.int_int a t' b t
    | str b => obtain ⟨t, rfl⟩ := rx; exact SeqAt.EqAt.int_str a t' b t
    | _ => exact absurd (show false = true from fx) Bool.false_ne_true
  | str a =>
    obtain ⟨t', rfl⟩ := ry
    cases x with
    | non => cases rx; exact SeqAt.EqAt.str_none a t'
    | bl b => cases rx; exact SeqAt.EqAt.str_bool a t' b
    | int b => obtain ⟨t, rfl⟩ := rx; exact SeqAt.EqAt.str_int a t' b t
    | str b => obtain ⟨t, rfl⟩ := rx; exact SeqAt.EqAt.str_str a t' b t
    | _ => exact absurd (show false = true from fx) Bool.false_ne_true
  | _ => exact absurd (show false = true from fy) Bool.false_ne_true
/-- the items' answers, read off the values (a value's own answer does not lean on its token) -/
def eqU (x : V) (u : Value) : Bool := match u with
  | .none => eqV .non x
  | .bool b => eqV (.bl b) x
  | .int i _ => eqV (.int i) x
  | .str z _ => eqV (.str z) x
  | _ => false
theorem eqU_of {x y : V} {u : Value} (r : RelV y u) (f : flatV y = true) : eqU x u = eqV y x := by
  cases y with
  | non => cases r; rfl
  | bl b => cases r; rfl
  | int i => obtain ⟨t, rfl⟩ := r; rfl
  | str z => obtain ⟨t, rfl⟩ := r; rfl
  | _ => exact absurd (show false = true from f) Bool.false_ne_true
theorem any_eqU {x : V} : ∀ {xs : List V} {us : List Value}, Vals xs us → xs.all flatV = true → us.any (eqU x) = xs.any fun y => eqV y x
  | _, _, .nil, _ => rfl
  | y :: xs, u :: us, .cons r t, f => by
    rw [List.all_cons, Bool.and_eq_true] at f
    rw [List.any_cons, List.any_cons, eqU_of r f.1, any_eqU t f.2]
theorem mem_eqAt {A : Around} {s : Shared} {x : V} {v : Value} (rx : RelV x v) (fx : flatV x = true) : ∀ {xs : List V} {us : List Value}, Vals xs us → xs.all flatV = true → ∀ u ∈ us, SeqAt.EqAt A s u v (eqU x u)
  | _, _, .nil, _ => fun u hu => by cases hu
  | y :: xs, u :: us, .cons r t, f => fun u' hu => by
    rw [List.all_cons, Bool.and_eq_true] at f
    rcases List.mem_cons.mp hu with rfl | hu
    · rw [eqU_of r f.1]; exact eqAt_V r rx f.1 fx
    · exact mem_eqAt rx fx t f.2 u' hu
def inV (x : V) (xs : List V) : Bool := xs.any fun y => eqV y x
/-- x in a list or tuple of flat items -/
def rIn (K : PySem.W.Frag) (neg : Bool) : R2 := fun x y H Q => ∃ p xs, y = .ref p ∧ (SqL K H p xs ∨ SqT K H p xs) ∧ flatV x = true ∧ xs.all flatV = true ∧ Q (.bl (if neg then !inV x xs else inV x xs)) H
theorem op_in_seq : OpR X (compareOp .In) (rIn X.K false) := by
  intro pins s σ H x y v u Q I rx ry h
  obtain ⟨p, xs, rfl, hq, fx, fs, q⟩ := h
  cases ry
  rcases hq with hq | hq
  · obtain ⟨its, r, pl, hz⟩ := I.list hq
    refine SeqAt.in_listAt (eqU x) pl.isList (fun w hw => mem_eqAt rx fx r fs w (by simpa using hw)) ⟨.bl _, H, I, rfl, ?_⟩
    rw [show its.toArray.any (eqU x) = its.any (eqU x) by simp, any_eqU r fs]
    exact q
  · obtain ⟨its, r, pl, hz⟩ := I.tuple hq
    refine SeqAt.in_tupleAt (eqU x) pl (fun w hw => mem_eqAt rx fx r fs w (by simpa using hw)) ⟨.bl _, H, I, rfl, ?_⟩
    rw [show its.toArray.any (eqU x) = its.any (eqU x) by simp, any_eqU r fs]
    exact q
/-! ### len, list(x), tuple(x) of any list or tuple that is read -/
theorem call_len_seq : CallR X (.builtin "len") (fun xs H Q => ∃ p ys, xs = [.ref p] ∧ (SqL X.K H p ys ∨ SqT X.K H p ys) ∧ Q (.int ys.length) H) := by
  intro pins s σ H xs us Q I r h
  obtain ⟨p, ys, rfl, hq, q⟩ := h
  obtain ⟨u, rfl, rx⟩ := vals1 r
  cases rx
  have hn := line63
  rcases hq with hq | hq
  · obtain ⟨its, r', pl, hz⟩ := I.list hq
    have hlen := r'.length
    exact Calls.call_len_list pl.isList (by simp only [List.size_toArray] <;> omega) ⟨.int ys.length, H, I.tok _, ⟨s.toks + 1, by rw [List.size_toArray, hlen]⟩, q⟩
  · obtain ⟨its, r', pl, hz⟩ := I.tuple hq
    have hlen := r'.length
    exact len_tuple pl (by simp only [List.size_toArray] <;> omega) ⟨.int ys.length, H, I.tok _, ⟨s.toks + 1, by rw [List.size_toArray, hlen]⟩, q⟩
theorem call_len_str : CallR X (.builtin "len") (fun xs H Q => ∃ z, xs = [.str z] ∧ z.length ≤ sizeLine ∧ Q (.int z.length) H) := by
  intro pins s σ H xs us Q I r h
  obtain ⟨z, rfl, hz, q⟩ := h
  obtain ⟨u, rfl, t, rfl⟩ := vals1 r
  have hn := line63
  exact len_str (by omega) ⟨.int z.length, H, I.tok _, ⟨_, rfl⟩, q⟩
theorem CallR.or {f : Value} {r r' : List V → Hp → VK → Prop} (h : CallR X f r) (h' : CallR X f r') : CallR X f (fun xs H Q => r xs H Q ∨ r' xs H Q) := by
  intro pins s σ H xs us Q I rs q
  rcases q with q | q
  · exact h pins s σ H xs us Q I rs q
  · exact h' pins s σ H xs us Q I rs q
theorem call_tuple_of : CallR X (.type "tuple") (fun xs H Q => ∃ p ys, xs = [.ref p] ∧ ((SqL X.K H p ys ∧ ∀ l, H l = none → Q (.ref l) (upd H l (.tup ys))) ∨ (SqT X.K H p ys ∧ Q (.ref p) H))) := by
  intro pins s σ H xs us Q I r h
  obtain ⟨p, ys, rfl, h⟩ := h
  obtain ⟨u, rfl, rx⟩ := vals1 r
  cases rx
  rcases h with ⟨hq, q⟩ | ⟨hq, q⟩
  · obtain ⟨its, r', pl, hz⟩ := I.list hq
    have hlen := r'.length
    refine call_tuple_list pl.isList (fun h' kp => ?_) (by simp only [List.size_toArray] <;> omega)
    have I1 : Inv X pins σ H { s with heap := h' } := I.kept (t' := s.toks) kp
    have I2 : Inv X pins σ (upd H h'.objs.size (.tup ys)) { s with heap := h'.push { cls := .type "tuple", data := .seq its.toArray } } :=
      I1.laid (t' := s.toks) (fun b o e => Heap.get?_push_of_some _ e) (Nat.le_refl _) (show ObjOk X.prog X.w _ _ _ (.tup ys) from ⟨hz, its, r', IsTup.new _ _⟩)
    exact ⟨.ref h'.objs.size, _, I2, rfl, q _ (I1.hok.fresh (Nat.le_refl _))⟩
  · obtain ⟨its, r', pl, hz⟩ := I.tuple hq
    exact call_tuple_same pl ⟨.ref p, H, I, rfl, q⟩

/-! ### the call of a builtin's method: o.m(..) -/
/-- the value is of that builtin type -/
def tyV (K : PySem.W.Frag) (T : String) (x : V) (H : Hp) : Prop := match x with
  | .str _ => T = "str"
  | .int _ => T = "int"
  | .ref p => (T = "list" ∧ ∃ xs, SqL K H p xs) ∨ (T = "tuple" ∧ ∃ o, K.lookup p = some o ∧ o.cls = .type "tuple" ∧ o.dict = none) ∨
      (T = "dict" ∧ ((∃ kvs, H p = some (.dK kvs)) ∨ ∃ kvs, H p = some (.dT kvs))) ∨ (T = "set" ∧ ∃ S n, H p = some (.set S n))
  | _ => False
theorem tyV_is {pins : List (Addr × Obj)} {σ : St} {H : Hp} {s : Shared} {T : String} {x : V} {v : Value} (I : Inv X pins σ H s) (r : RelV x v) (ty : tyV X.K T x H) :
    s.TypeIs v T ∧ ∀ a, v = .ref a → ∃ ob, s.heap.get? a = some ob ∧ ob.dict = none := by
  cases x with
  | str z =>
    obtain ⟨t, rfl⟩ := r
    cases (show T = "str" from ty)
    exact ⟨typeIs_str s z t, fun _ e => nomatch e⟩
  | int i =>
    obtain ⟨t, rfl⟩ := r
    cases (show T = "int" from ty)
    exact ⟨typeIs_int s i t, fun _ e => nomatch e⟩
  | ref p =>
    cases r
    rcases ty with ⟨rfl, xs, hq⟩ | ⟨rfl, o, hk, hc, hd⟩ | ⟨rfl, hk⟩ | ⟨rfl, S, n, hk⟩
    · obtain ⟨its, _, pl, _⟩ := I.list hq
      refine ⟨pl.isList.typeIs, fun a e => ?_⟩
      cases e
      obtain ⟨o, n, e, c, hd, _⟩ := pl
      exact ⟨o, e, hd⟩
    · refine ⟨⟨o, I.kIn p o hk, hc⟩, fun a e => ?_⟩
      cases e
      exact ⟨o, I.kIn _ o hk, hd⟩
    · have z : ∃ o, s.heap.get? p = some o ∧ o.ExactDict := by
        rcases hk with ⟨kvs, hk⟩ | ⟨kvs, hk⟩
        · obtain ⟨_, _, _, _, o, _, _, e, ex, _⟩ := I.hok p _ hk
          exact ⟨o, e, ex⟩
        · obtain ⟨_, _, _, _, o, _, _, e, ex, _⟩ := I.hok p _ hk
          exact ⟨o, e, ex⟩
      obtain ⟨o, e, ex⟩ := z
      refine ⟨⟨o, e, ex.1⟩, fun a e2 => ?_⟩
      cases e2
      exact ⟨o, e, ex.2.1⟩
    · obtain ⟨o, _, _, _, e, ex, _⟩ := I.hok p _ hk
      refine ⟨⟨o, e, ex.1⟩, fun a e2 => ?_⟩
      cases e2
      exact ⟨o, e, ex.2.1⟩
  | _ => exact False.elim ty
def tBM0 (K : PySem.W.Frag) (T : String) (r : V → List V → Hp → VK → Prop) (to : TE) : TE := fun σ H Q => to σ H fun x H1 => tyV K T x H1 ∧ r x [] H1 Q
def tBM (K : PySem.W.Frag) (T : String) (r : V → List V → Hp → VK → Prop) (to : TE) (t : TA) : TE := fun σ H Q => to σ H fun x H1 => tyV K T x H1 ∧ t σ H1 fun xs H2 => r x xs H2 Q
variable {o e : Expr} {es : List Expr} {to : TE} {t : TA} {name : Str} {apos cpos : Pos} {T id : String} {r : V → List V → Hp → VK → Prop}
theorem pe_bm (pa : PlainAttrs T) (slot : Slot T name id) (hty : typeOf (.builtin id) = pure (.type "method_descriptor")) (hm : MtR X id r) (ho : PE X o to) (ha : PA X (e :: es) t)
    (hbase : attributeBase o name X.env (eval o X.env) = eval o X.env := by rfl)
    (hfew : ((backTo cpos (starEach (e :: es) X.env)).all (fun x => !x.1) && (backToKw cpos (keywordEach [] X.env)).all (fun x => x.1.isSome)
      && decide ((e :: es).length + ([] : List Keyword).length + (if ([] : List Keyword).isEmpty then 0 else 1) < 30)) = true := by rfl)
    (hline : (apos.endLine == cpos.line) = true := by rfl) (hs : starEach (e :: es) X.env = (false, eval e X.env) :: starEach es X.env := by rfl) (hplain : (backTo cpos (starEach es X.env)).any (·.1) = false := by rfl) :
    PE X (.Call (.Attribute o name apos) (e :: es) [] cpos) (tBM X.K T r to t) := by
  intro pins s σ H Q I h
  refine wpAny_Call_method_late hbase hfew hline rfl (thn (ho pins s σ H _ I h) fun v s1 ⟨x, H1, I1, r1, ty, q1⟩ => ?_)
  obtain ⟨h1, h2⟩ := tyV_is I1 r1 ty
  refine ⟨T, id, pa, slot, hty, h1, h2, ?_⟩
  have hA := ha cpos pins s1 σ H1 _ I1 q1
  rw [hs] at hA ⊢
  refine Calls.callWith_builtin (by show (false || (backTo cpos (starEach es X.env)).any (·.1)) = false; rw [hplain] <;> rfl) (Calls.evalArgs_plain ?_)
  exact thn hA fun us s2 ⟨vs, H2, I2, r2, q2⟩ => hm pins s2 σ H2 x vs v us Q I2 r1 r2 q2
/- xs.append(e), list.index on a module's tuple .. are MtR facts of 06m -/
end
end L2

namespace L2
open PySem PySem.Spec PyProof.Rows

def MtM (X : Cx) (id : String) (r : V → List V → Hp → VK → Prop) : Prop :=
  ∀ (pins : List (Addr × Obj)) (s : Shared) (σ : St) (H : Hp) (x : V) (xs : List V) (v : Value) (us : List Value) (Q : VK), Inv X pins σ H s → RelV x v → Vals xs us → r x xs H Q →
    wpAny (model X.prog X.w) X.A (call (.builtin id) (v :: us)) (EP X pins σ Q) X.xe s

/-! ### lists of values -/
theorem Vals.one : ∀ {x : V} {us : List Value}, Vals [x] us → ∃ u, us = [u] ∧ RelV x u
  | _, _, .cons r .nil => ⟨_, rfl, r⟩
theorem Vals.two : ∀ {x y : V} {us : List Value}, Vals [x, y] us → ∃ u v, us = [u, v] ∧ RelV x u ∧ RelV y v
  | _, _, _, .cons r (.cons q .nil) => ⟨_, _, rfl, r, q⟩
theorem Vals.zero : ∀ {us : List Value}, Vals [] us → us = []
  | _, .nil => rfl
theorem Vals.dropLast {xs : List V} {us : List Value} (h : Vals xs us) : Vals xs.dropLast us.dropLast := by
  induction h with
  | nil => exact .nil
  | cons r t ih =>
    cases t with
    | nil => exact .nil
    | cons q t' => exact .cons r ih
theorem Vals.eraseIdx : ∀ {xs : List V} {us : List Value} (i : Nat), Vals xs us → Vals (xs.eraseIdx i) (us.eraseIdx i)
  | _, _, _, .nil => .nil
  | _, _, 0, .cons _ t => t
  | _, _, i + 1, .cons r t => .cons r (Vals.eraseIdx i t)
theorem Vals.reverse {xs : List V} {us : List Value} (h : Vals xs us) : Vals xs.reverse us.reverse := by
  induction h with
  | nil => exact .nil
  | cons r t ih => rw [List.reverse_cons, List.reverse_cons]; exact Vals.append ih (.cons r .nil)
theorem Vals.rep {xs : List V} {us : List Value} (h : Vals xs us) : ∀ k : Nat, Vals (List.replicate k xs).flatten (List.replicate k us).flatten
  | 0 => .nil
  | k + 1 => by
    rw [List.replicate_succ, List.replicate_succ, List.flatten_cons, List.flatten_cons]
    exact Vals.append h (Vals.rep h k)
theorem foldl_rep (its : List Value) : ∀ (k : Nat) (acc : List Value),
    List.foldl (fun x1 x2 => x1 ++ x2) acc.toArray (List.replicate k its.toArray) = (acc ++ (List.replicate k its).flatten).toArray
  | 0, acc => by simp
  | k + 1, acc => by
    have e : acc.toArray ++ its.toArray = (acc ++ its).toArray := by simp
    have e2 : (acc ++ its) ++ (List.replicate k its).flatten = acc ++ (List.replicate (k + 1) its).flatten := by
      rw [List.replicate_succ, List.flatten_cons, List.append_assoc]
    rw [← e2, ← foldl_rep its k (acc ++ its), ← e, List.replicate_succ, List.foldl_cons]

section
variable {X : Cx} {pins : List (Addr × Obj)} {σ : St} {H : Hp} {s : Shared} {l b : Addr} {xs ys zs : List V}

/-! ### the two steps: a tracked list is rewritten, a new list is laid -/
theorem Inv.lset {its its' : List Value} {n : Nat} {f : Array Value → Array Value} {t' : Nat} (I : Inv X pins σ H s) (hH : H l = some (.lst xs))
    (e : s.heap.get? l = some { cls := .type "list", data := .seq its.toArray n }) (hf : f its.toArray = its'.toArray) (hv : Vals ys its') (hz : ys.length ≤ sizeLine) :
    Inv X pins σ (upd H l (.lst ys)) { s with heap := s.heap.update l (Obj.mapSeq f), toks := t' } := by
  have q := PySem.IsL.update e f
  rw [hf] at q
  refine I.write (x := l) (e := l) (by rw [hH]; exact trivial) (.inl rfl) (fun b' u hb hu => (Heap.get?_update_other s.heap (Obj.mapSeq f) (Ne.symm hb)).trans hu) ⟨_, q⟩ ?_
  exact ⟨hz, its', _, hv, q⟩
theorem Inv.lnew {its : List Value} {t' : Nat} (I : Inv X pins σ H s) (hv : Vals ys its) (hz : ys.length ≤ sizeLine) :
    Inv X pins σ (upd H s.heap.objs.size (.lst ys)) { s with heap := s.heap.push { cls := .type "list", data := .seq its.toArray }, toks := t' } :=
  I.laid (fun _ _ q => Heap.get?_push_of_some _ q) (Nat.le_refl _) ⟨hz, its, 0, hv, Heap.get?_push_size _ rfl⟩
theorem Inv.fresh (I : Inv X pins σ H s) : H s.heap.objs.size = none := I.hok.fresh (Nat.le_refl _)
theorem Inv.lstM (I : Inv X pins σ H s) (hH : H l = some (.lst xs)) : xs.length ≤ sizeLine ∧ ∃ (its : List Value) (n : Nat), Vals xs its ∧ xs.length = its.length ∧ s.heap.get? l = some { cls := .type "list", data := .seq its.toArray n } := by
  obtain ⟨z, its, n, r, e⟩ := I.hok l _ hH
  exact ⟨z, its, n, r, r.length, e⟩

theorem notLongL {n : Nat} (h : n ≤ sizeLine) : Builtin.List.listTooLong n = false := by
  unfold Builtin.List.listTooLong
  exact decide_eq_false (by omega)
end

section
variable {X : Cx}

/-! ### methods -/
def rAppend : V → List V → Hp → VK → Prop := fun x vs H Q => ∃ l xs y, x = .ref l ∧ vs = [y] ∧ H l = some (.lst xs) ∧ xs.length < sizeLine ∧ Q .non (upd H l (.lst (xs ++ [y])))
theorem mt_append : MtM X "list.append" rAppend := by
  intro pins s σ H x vs v us Q I rx rv h
  obtain ⟨l, xs, y, rfl, rfl, hH, hz, q⟩ := h
  cases rx
  obtain ⟨u, rfl, ru⟩ := rv.one
  obtain ⟨z, its, n, r, hl, e⟩ := I.lstM hH
  refine call_meets F.slot_list_append ⟨_, e, rfl⟩ F.entry_list_append (F.args_list_append_2 _ _) (PySem.list_append l its.toArray n u (by rw [List.size_toArray]; omega)) ⟨e, ?_⟩
  refine ⟨.non, _, I.lset (its' := its ++ [u]) hH e (by simp) (r.append (.cons ru .nil)) ?_, rfl, q⟩
  rw [List.length_append, List.length_singleton]
  omega

def rExtend : V → List V → Hp → VK → Prop := fun x vs H Q => ∃ l b xs zs, x = .ref l ∧ vs = [.ref b] ∧ H l = some (.lst xs) ∧ H b = some (.lst zs) ∧ xs.length + zs.length ≤ sizeLine ∧ Q .non (upd H l (.lst (xs ++ zs)))
def rPop : V → List V → Hp → VK → Prop := fun x vs H Q => ∃ l xs y, x = .ref l ∧ vs = [] ∧ H l = some (.lst xs) ∧ xs[xs.length - 1]? = some y ∧ Q y (upd H l (.lst xs.dropLast))
def rPopAt : V → List V → Hp → VK → Prop := fun x vs H Q => ∃ l xs i k y, x = .ref l ∧ vs = [.int i] ∧ H l = some (.lst xs) ∧ -(2 ^ 63) ≤ i ∧ i < 2 ^ 63 ∧ seqIndex? i xs.length = some k ∧ xs[k]? = some y ∧ Q y (upd H l (.lst (xs.eraseIdx k)))
def rReverse : V → List V → Hp → VK → Prop := fun x vs H Q => ∃ l xs, x = .ref l ∧ vs = [] ∧ H l = some (.lst xs) ∧ Q .non (upd H l (.lst xs.reverse))
def rClear : V → List V → Hp → VK → Prop := fun x vs H Q => ∃ l xs, x = .ref l ∧ vs = [] ∧ H l = some (.lst xs) ∧ Q .non (upd H l (.lst []))
/-! ### list + list, list += list, list * int -/
def rCat : R2 := fun x y H Q => ∃ l b xs zs, x = .ref l ∧ y = .ref b ∧ H l = some (.lst xs) ∧ H b = some (.lst zs) ∧ xs.length + zs.length ≤ sizeLine ∧ ∀ p, H p = none → Q (.ref p) (upd H p (.lst (xs ++ zs)))
theorem op_cat : OpR X (binaryOp .Add) rCat := by
  intro pins s σ H x y v u Q I rx ry h
  obtain ⟨l, b, xs, zs, rfl, rfl, hH, hB, hz, q⟩ := h
  cases rx
  cases ry
  obtain ⟨z, its, n, r, hl, e⟩ := I.lstM hH
  obtain ⟨z2, its2, n2, r2, hl2, e2⟩ := I.lstM hB
  refine PySem.P.add_list e e2 ?_ (by rw [List.size_toArray, List.size_toArray]; omega)
  have ea : its.toArray ++ its2.toArray = (its ++ its2).toArray := by simp
  rw [ea]
  exact ⟨.ref _, _, I.lnew (t' := s.toks) (r.append r2) (by rw [List.length_append]; omega), rfl, q _ I.fresh⟩
/-- a list times an int (a negative one is nothing) -/
def rRep : R2 := fun x y H Q => ∃ l k xs, x = .ref l ∧ y = .int k ∧ H l = some (.lst xs) ∧ -(2 ^ 63) ≤ k ∧ k < 2 ^ 63 ∧ xs.length * k.toNat ≤ sizeLine ∧
  ∀ p, H p = none → Q (.ref p) (upd H p (.lst (List.replicate k.toNat xs).flatten))
theorem len_rep {α : Type} (xs : List α) (k : Nat) : (List.replicate k xs).flatten.length = k * xs.length := by
  induction k with
  | zero => simp
  | succ k ih => rw [List.replicate_succ, List.flatten_cons, List.length_append, ih, Nat.succ_mul, Nat.add_comm]
theorem op_rep : OpR X (binaryOp .Mult) rRep := by
  intro pins s σ H x y v u Q I rx ry h
  obtain ⟨l, k, xs, rfl, rfl, hH, h1, h2, hz, q⟩ := h
  cases rx
  obtain ⟨t, rfl⟩ := ry
  obtain ⟨z, its, n, r, hl, e⟩ := I.lstM hH
  have hlen : its.toArray.size * k.toNat ≤ sizeLine := by rw [List.size_toArray, ← hl]; exact hz
  have hcap : ¬ its.toArray.size * k.toNat > (2 ^ 63 - 1) / 8 := by
    have : (sizeLine : Nat) ≤ (2 ^ 63 - 1) / 8 := by decide
    omega
  have hfit : ¬ (!Builtin.List.listFitsIndex k) = true := by
    rw [fitsIndex_both h1 h2]
    exact Bool.false_ne_true
  have hlong : ¬ Builtin.List.listTooLong (its.toArray.size * k.toNat) = true := by
    rw [notLongL hlen]
    exact Bool.false_ne_true
  have hnew : List.foldl (fun x1 x2 => x1 ++ x2) #[] (List.replicate (if its.toArray.isEmpty = true then 0 else k.toNat) its.toArray) = (List.replicate k.toNat its).flatten.toArray := by
    have f0 : ∀ m : Nat, List.foldl (fun x1 x2 => x1 ++ x2) #[] (List.replicate m its.toArray) = (List.replicate m its).flatten.toArray := fun m => by
      have := foldl_rep its m []
      rw [List.nil_append] at this
      exact this
    rw [f0]
    cases its with
    | nil => simp
    | cons a r' => rw [if_neg (by simp)]
  refine wpAny_binaryOp_repeat_ref (T := "list") (U := "int") (by decide) ⟨_, e, rfl⟩ (fun s' => typeIs_int s' k t) noFill_list_mul F.fills_int_mul F.slot_int_rmul repeat_list F.slot_int_index.lookup
    (call_meets F.slot_int_rmul (typeIs_int s k t) F.entry_int_rmul (F.args_int_rmul_2 _ _) (int___rmul___int_list k t l its.toArray n)
      ⟨e, rfl, ⟨_, e, rfl⟩, call_meets F.slot_list_mul ⟨_, e, rfl⟩ F.entry_list_mul (F.args_list_mul_2 _ _) (AutoListH.list___mul___list_int_3 l its.toArray n k t hfit hcap hlong) ⟨e, ?_⟩⟩)
  rw [hnew]
  exact ⟨.ref _, _, I.lnew (t' := s.toks) (r.rep k.toNat) (by rw [len_rep, Nat.mul_comm]; exact hz), rfl, q _ I.fresh⟩

/-! ### del xs[i] -/
end

/-! ### xs[a:b] = ys -/
section
variable {prog : Program} {w : World} {A : Around} {E : Value → Shared → Prop} {s : Shared}
set_option maxRecDepth 100000 in
end

section
variable {X : Cx}
end
end L2

namespace Att
open PySem PySem.W PySem.Calls PyProof.Rows

/-! ### the script -/
theorem ints_of_wellAll {P : Params} {h : Heap} : ∀ (ns : List Int) (vs : List Value), WellAll P h vs (ns.map WData.int) → IntsAre vs ns := by
  intro ns
  induction ns with
  | nil =>
    intro vs w
    rw [List.map_nil] at w
    cases w
    exact .nil
  | cons n ns ih =>
    intro vs w
    rw [List.map_cons] at w
    cases w with
    | cons a b =>
      cases a
      exact .cons _ _ (ih _ b)

theorem script_of {l : OpenLaw} {n : Nat} (hn : l.most = some n) {P : Params} {h : Heap} {args : List WData} {vals : List Value}
    (hpre : l.row.toRowW.claim.pre args = true) (hwl : WellAll P h vals args) :
    ∃ a vs ns, vals = [Value.ref a] ∧ args = [WData.list (ns.map WData.int)] ∧ h.get? a = some { cls := .type "list", data := .seq vs.toArray } ∧ IntsAre vs ns ∧ ns.length ≤ n := by
  have hsh : WShape.hasAll [] args [.list .int] = true := (pre_splitW hpre).1
  have hc : l.pre.holds [] { args := args } = true := (pre_splitW hpre).2
  obtain ⟨d, r, rfl, h1, h2⟩ := hasAllW_cons hsh
  obtain rfl := hasAllW_nil h2
  obtain ⟨xs, rfl, h3⟩ := hasW_list h1
  obtain ⟨ns, rfl⟩ := items_int h3
  have hlen : ns.length ≤ n := by
    unfold OpenLaw.pre at hc
    have h4 : (WTm.not (.lt (.lit (.int (n : Int))) (.len (.arg 0)))).holds [] { args := [.list (ns.map .int)] } = true := by
      have h4 := (holds_andW hc).1
      rw [hn] at h4
      exact h4
    have h5 := condW_of h4 (w_not (w_lt w_lit (w_len_list (w_arg rfl))))
    rw [List.length_map] at h5
    refine Nat.le_of_not_lt fun q => ?_
    have q' : (n : Int) < ((ns.length : Nat) : Int) := by omega
    first
      | (rw [decide_eq_true q'] at h5; exact absurd h5 (by decide))
      | (simp at h5; omega)
  cases hwl with
  | cons w1 w2 =>
    cases w2
    cases w1 with
    | list ho hall => exact ⟨_, _, ns, rfl, rfl, ho, ints_of_wellAll ns _ hall, hlen⟩

theorem post_true (l : OpenLaw) (args : List WData) : l.row.toRowW.claim.post args (.bool true) args = true :=
  postW_of (r := l.row.toRowW) (X := (true == true))
    (show WShape.has [] (.bool true) .bool = true by first | rfl | decide | simp [WShape.has, WShape.arms, WShape.armsAll])
    (show (WTm.eq .res (.lit (.bool true))).value [] { args := args, res := some (.bool true), after := args } = some (.bool (true == true)) from w_eq_bool (w_res rfl) w_lit) rfl

/-! ### the attachment: holds_open's last premise (the goal 'hc' behind k_head) from a wpAny of the law's body -/
/-- the same from a codeAny of the CALL (for a layer whose function contracts speak of calls) -/
theorem attach_call {l : OpenLaw} {n : Nat} {q : Program} {loose : List Str} {XP : (Str → Option Value) → Heap → Prop} {YP : World → Heap → Prop} {d : DefRec}
    (hn : l.most = some n) (hdf : d.params.defaults = [])
    (call : ∀ (w : World) (s₀ s₁ : Shared) (mg mb : Str → Option Value) (fa : Addr) (o : Obj) (pm cd doc : Value) (a : Addr) (vs : List Value) (ns : List Int),
      Ground q loose [] XP w s₀ mg mb s₁.heap → YP w s₁.heap →
      s₁.heap.get? fa = some o → o.data = .func (docDef d.name d.params d.body d.scope pm cd doc) → s₁.heap.CodeRec cd d.name → mg d.name = some (.ref fa) →
      s₁.heap.get? a = some { cls := .type "list", data := .seq vs.toArray } → IntsAre vs ns → ns.length ≤ n → s₁.gens = #[] →
      codeAny (model l.prog w) callerA (.call (.ref fa) ⟨[.ref a], []⟩) (fun r s' => r = .ok (.ret (.bool true)) ∧ OldK s₁.heap s'.heap ∧ s'.os = s₁.os ∧ AllBare s'.gens) s₁) :
    WalkO q loose XP YP l.row.toRowW d [] (fun f vs => PySem.call f vs) := by
  intro w s₀ s₁ mg mb G Y fa o pm cd doc dV kV ho hd hcd hD hmg hg args vals as hpre hlay hrd hwl hlo
  obtain rfl : dV = .none := Dflts.none hD hdf
  obtain rfl : kV = .none := Dflts.noKw hD
  obtain ⟨a, vs, ns, rfl, rfl, hobj, hints, hlen⟩ := script_of hn hpre hwl
  refine enter_call (codeAny_mono (call w s₀ s₁ mg mb fa o pm cd doc a vs ns G Y ho (fd_plain hd) hcd hmg hobj hints hlen hg) fun r s' hq => ?_)
  obtain ⟨rfl, h2, h3, h4⟩ := hq
  exact ⟨.inl ⟨.bool true, .bool true, [], rfl, fun _ => rfl, .bool true, post_true l _, fun _ => ⟨List.Pairwise.nil, fun _ hm => (nomatch hm)⟩⟩, h2, h3, h4⟩

/-! ### rules over ANY heap (no ledger) from facts about the written part K: the library's own take a ledger (News) for what they write -/
section
variable {prog : Program} {w : World} {A : Around} {E : Value → Shared → Prop} {s : Shared} {K : Frag}

/-! the whole heap as the ledger: makes every rule that writes through a ledger a rule over any heap -/
def noObjs (h : Heap) : Heap := { h with objs := #[] }
def ledger (h : Heap) (L d : Addr) : List (Addr × Obj) := (List.range h.objs.size).filterMap fun a => if a = L ∨ a = d then none else (h.get? a).map fun o => (a, o)
end
end Att

namespace L2
open PySem PySem.Spec PyProof.Rows

theorem vals_ints : ∀ {vs : List Value} {ns : List Int}, IntsAre vs ns → Vals (ns.map V.int) vs
  | _, _, .nil => .nil
  | _, _, .cons n t h => .cons ⟨t, rfl⟩ (vals_ints h)

/-- nothing is tracked but the script, known to the object (or it is an object of the module) -/
def Only (H : Hp) : Prop := ∀ b, H b = none ∨ ∃ o xs, H b = some (.frz o (.lst xs))

/-- THE HEAD: the law's promise, at the heap behind the top. F, the promise of the law's def, may use that base is part of the heap (so K.In base, base.Ns mainGlobals mg stand in Mod) -/
theorem law_call {P : Program} {w : World} {K : PySem.W.Frag} {mg mb : Str → Option Value} {CX : CXT} {k : Nat} {fa a : Addr} {fd : FuncData} {x : Str} {sp : Sp} {s₁ : Shared} {vs : List Value} {ns : List Int}
    (KX : K.In s₁.heap) (hns : s₁.heap.Ns mainGlobals mg) (hb : s₁.heap.Ns builtinsNs mb) (hbb : ∀ x : Str, x ≠ "__name__" → mb x = bootBuiltins x) (hlim : s₁.heap.NoLimit) (hg : s₁.gens = #[])
    (ha : s₁.heap.get? a = some { cls := .type "list", data := .seq vs.toArray }) (hi : IntsAre vs ns) (hl : ns.length ≤ sizeLine) (hr : Room k callerA)
    (F : ∀ base : Heap, K.In base → base.Ns mainGlobals mg → FnOk P w K mg base CX k fa fd [x] sp) (hbind : ∀ (s : Shared) (u : Value), BindsTo s fd ⟨[u], []⟩ [(x, u)])
    (hsp : ∀ H : Hp, Only H → SqL K H a (ns.map V.int) → sp [.ref a] H (fun v _ => v = .bl true) fun _ _ _ => False)
    (hCX : ∀ H e s', CX [] H s₁ (fun _ _ _ => False) e s' → False) :
    codeAny (model P w) callerA (.call (.ref fa) ⟨[.ref a], []⟩) (fun r s' => r = .ok (.ret (.bool true)) ∧ OldK s₁.heap s'.heap ∧ s'.os = s₁.os ∧ AllBare s'.gens) s₁ := by
  have rv := vals_ints hi
  have lenV := hi.length
  -- from an abstract heap in which nothing but the script may be tracked
  have core : ∀ H : Hp, Only H → SqL K H a (ns.map V.int) → HOk P w H s₁.heap → (∀ b, H b ≠ none → b = a) → (H a ≠ none → K.lookup a = none) →
      codeAny (model P w) callerA (.call (.ref fa) ⟨[.ref a], []⟩) (fun r s' => r = .ok (.ret (.bool true)) ∧ OldK s₁.heap s'.heap ∧ s'.os = s₁.os ∧ AllBare s'.gens) s₁ := by
    intro H hO hS hok hA hK
    have base_of : ∀ {b : Addr} {o : Obj}, s₁.heap.get? b = some o → H b = none → (hidT s₁.heap H).get? b = some o := fun e n => hidT_get e n
    have noA : ∀ {b : Addr} {o : Obj} {es : Array DictEntry} {ep : Nat}, s₁.heap.get? b = some o → o.data = .dict es ep → H b = none := fun {b o es ep} e d => by
      cases q : H b with
      | none => rfl
      | some u =>
        have e' : b = a := hA b (by rw [q]; simp)
        subst e'
        rw [ha] at e; cases e
        have d' : Data.seq vs.toArray _ = Data.dict es ep := d
        cases d'
    have nsK : ∀ {b : Addr} {m : Str → Option Value}, s₁.heap.Ns b m → (hidT s₁.heap H).Ns b m := fun {b m} ⟨o, es, ep, e, d, r⟩ => ⟨o, es, ep, base_of e (noA e d), d, r⟩
    have hKb : K.In (hidT s₁.heap H) := fun b o e => base_of (KX b o e) (by
      cases q : H b with
      | none => rfl
      | some u =>
        have e' : b = a := hA b (by rw [q]; simp)
        subst e'
        rw [hK (by rw [q]; simp)] at e; cases e)
    have hM : Mod K mg (hidT s₁.heap H) := ⟨hKb, nsK hns, ⟨mb, nsK hb, hbb⟩, let ⟨mc, h1, h2⟩ := hlim; ⟨mc, nsK h1, h2⟩⟩
    have e0 : Env0 P w K mg (hidT s₁.heap H) callerA [] s₁ H := ⟨rfl, hM, fun b o e => of_hidT e, Nat.le_of_eq (hidT_size _ _), trivial, fun b hb => absurd (show b ∈ ([] : List Addr) from hb) (by simp), hok, .of_eq hg⟩
    refine codeAny_mono ((F _ hKb (nsK hns)).run callerA [] s₁ H ⟨[.ref a], []⟩ [.ref a] [.ref a] _ _ hr e0 (hbind s₁ (.ref a)) (.cons rfl .nil) (hsp H hO hS)) fun r s' h => ?_
    cases r with
    | error e => exact (hCX H e s' h).elim
    | ok fl =>
      cases fl with
      | next => exact False.elim h
      | brk => exact False.elim h
      | cont => exact False.elim h
      | ret u =>
        obtain ⟨v, H', os, bare, un, hok', r', q⟩ := h
        have q' : v = .bl true := q
        subst q'
        obtain rfl : u = Value.bool true := r'
        refine ⟨rfl, OldK.of_keep fun b o e => ?_, os, bare⟩
        cases q : H b with
        | none => exact un.keep b o e q (by intro z; exact absurd (show b ∈ ([] : List Addr) from z) (by simp)) (by simp)
        | some u =>
          rcases hO b with z | ⟨ob, xs, z⟩
          · rw [q] at z; cases z
          · have z2 := un.frzs b ob _ z
            obtain ⟨e1, _⟩ := hok b _ z
            obtain ⟨e2, _⟩ := hok' b _ z2
            rw [e] at e1; cases e1
            exact e2
  cases hk : K.lookup a with
  | some o =>
    -- the script is one of the module's own objects
    have e := KX a o hk
    rw [ha] at e
    cases e
    refine core (fun _ => none) (fun _ => .inl rfl) (.inr ⟨_, vs.toArray, _, hk, rfl, rfl, rfl, by rw [List.size_toArray, lenV]; exact hl, by simpa using rv⟩) (fun b u z => by have z' : (none : Option HO) = some u := z; cases z') (fun b z => absurd rfl z) fun z => absurd rfl z
  | none =>
    refine core (fun b => if b = a then some (.frz { cls := .type "list", data := .seq vs.toArray } (.lst (ns.map V.int))) else none) (fun b => ?_) (.inl (.inr ⟨{ cls := .type "list", data := .seq vs.toArray }, if_pos rfl⟩)) (fun b u z => ?_) (fun b z => ?_) fun _ => hk
    · by_cases hb : b = a
      · exact .inr ⟨_, _, if_pos hb⟩
      · exact .inl (if_neg hb)
    · by_cases hb : b = a
      · have z' := (if_pos hb).symm.trans z
        cases z'
        subst hb
        exact ⟨ha, by rw [List.length_map]; exact hl, vs, _, rv, ha⟩
      · have z' := (if_neg hb).symm.trans z
        cases z'
    · by_cases hb : b = a
      · exact hb
      · exact absurd (if_neg hb) z
end L2

namespace L2
open PySem PySem.Spec PyProof.Rows

abbrev KOf {K : PySem.W.Frag} {h : Heap} (_ : K.In h) : PySem.W.Frag := K

/-- the goal that k_head leaves (case hc), from the law's promise. F gives the function object fd (K's own) once, then the promise over every base -/
theorem walk_of {l : PySem.W.OpenLaw} {n k : Nat} {q : Program} {loose : List Str} {XP : (Str → Option Value) → Heap → Prop} {YP : World → Heap → Prop} {d : DefRec} {K : Params → PySem.W.Frag} {CX : World → CXT} {sp : World → Sp} {x : Str}
    (hn : l.most = some n) (hn2 : n ≤ sizeLine) (hdf : d.params.defaults = []) (hr : Room k callerA)
    (hY : ∀ (w : World) (h : Heap), YP w h → (K w.params).In h)
    (F : ∀ (w : World) (mg : Str → Option Value) (fa : Addr) (h : Heap), (K w.params).In h → h.Ns mainGlobals mg → mg d.name = some (.ref fa) →
      ∃ fd : FuncData, (∀ (s : Shared) (u : Value), BindsTo s fd ⟨[u], []⟩ [(x, u)]) ∧
        ∀ base : Heap, (K w.params).In base → base.Ns mainGlobals mg → FnOk l.prog w (K w.params) mg base (CX w) k fa fd [x] (sp w))
    (hsp : ∀ (w : World) (H : Hp) (a : Addr) (ns : List Int), ns.length ≤ n → Only H → SqL (K w.params) H a (ns.map V.int) → sp w [.ref a] H (fun v _ => v = .bl true) fun _ _ _ => False)
    (hCX : ∀ (w : World) (H : Hp) (s : Shared) (e : Value) (s' : Shared), CX w [] H s (fun _ _ _ => False) e s' → False) :
    PySem.W.WalkO q loose XP YP l.row.toRowW d [] (fun f vs => PySem.call f vs) := by
  refine Att.attach_call hn hdf fun w s₀ s₁ mg mb fa o pm cd doc a vs ns G Y ho hd hcd hmg hobj hints hlen hg => ?_
  have KX := hY w _ Y
  obtain ⟨fd, hb, hF⟩ := F w mg fa _ KX G.T.g hmg
  exact law_call KX G.T.g G.T.b G.T.builtins G.T.nolimit hg hobj hints (Nat.le_trans hlen hn2) hr hF hb (fun H hO hS => hsp w H a ns hlen hO hS) fun H e s' => hCX w H s₁ e s'
end L2

/-! SHORT WORDS over the layer: a def of the text, its body, what a loop and a test want. -/
namespace L2
open PySem PySem.Spec PyProof.Rows

/-! ### the text by places -/
/-- the j-th statement of a class's body -/
def inClass (s : Stmt) (j : Nat) : Stmt := match s with
  | .ClassDef _ _ _ body _ _ _ _ _ _ _ => body.getD j (.Pass ⟨0, 0, 0, 0⟩)
  | _ => .Pass ⟨0, 0, 0, 0⟩
def defArgs (s : Stmt) : Arguments := match s with
  | .FunctionDef _ a _ _ _ _ _ _ _ _ => a
  | _ => { posonlyargs := [], args := [], vararg := none, kwonlyargs := [], kw_defaults := [], kwarg := none, defaults := [] }
def defBody (s : Stmt) : List Stmt := match s with
  | .FunctionDef _ _ b _ _ _ _ _ _ _ => b
  | _ => []
def defScope (s : Stmt) : Scope := match s with
  | .FunctionDef _ _ _ _ _ _ sc _ _ _ => sc
  | _ => { kind := .function, names := [], isGenerator := false, isCoroutine := false }

/-! ### no exception leaves a def -/
abbrev CX0 : CXT := fun _ _ _ _ _ _ => False
abbrev E0 : XK := fun _ _ _ => False
/-! ### a def (or method) of the text as it stands behind the top -/
structure Fun (K : PySem.W.Frag) (x qual : Str) (st : Stmt) (f : Addr) (fd : FuncData) : Prop where
  ex : ∃ (oc : Value) (od : Option Addr) (kV doc pm : Value) (an : Option Addr) (cdv ct : Value) (osl : Array (Option Value)),
    fd = PySem.W.fnOf x qual (defArgs st) (defBody st) (defScope st) .none kV doc pm an cdv ct ∧ K.lookup f = some ⟨oc, od, .func fd, osl⟩ ∧ PySem.W.codeIn K cdv qual = true
  kp : PySem.W.keepIn K (.ref f) = true
section
variable {P : Program} {w : World} {K : PySem.W.Frag} {mg : Str → Option Value} {base : Heap}
/-- THE RULE for a def: its body as a term of rules, and the reading of that term -/
theorem Fun.ok {x qual : Str} {st : Stmt} {f : Addr} {fd : FuncData} {N ps : List Str} {k : Nat} {sp : Sp} (F : Fun K x qual st f fd) (S : FnScope N ps (defScope st)) (len : ∀ vs H Q E, sp vs H Q E → vs.length = ps.length)
    (hbody : ∀ (cdv : Value) (A : Around) (outer : List Env) (s : Shared) (H : Hp) (vs : List V) (Q : VK) (E : XK), Room k (A.deeper (envOfC qual (defScope st) s.heap.objs.size f cdv)) → sp vs H Q E →
      ∃ t, PSs (cxOf CX0 P w K mg base N qual (defScope st) f cdv A outer s H E).nox (defBody st) t ∧ t { nx := fun _ H' => Q .non H', rt := Q } (start N vs) H) : FnOk P w K mg base CX0 (k + 1) f fd ps sp := by
  obtain ⟨oc, od, kV, doc, pm, an, cdv, ct, osl, rfl, lk, hcd⟩ := F.ex
  refine fn_of lk hcd S len fun A outer s H vs Q E hr hsp => ?_
  obtain ⟨t, h, q⟩ := hbody cdv A outer s H vs Q E hr hsp
  exact ⟨t, h.nox, q⟩
/-- how its arguments bind (no defaults): h is «fun _ _ _ _ _ _ us hl => match us, hl with | [_, _], _ => rfl», one _ a parameter -/
theorem Fun.binds {x qual : Str} {st : Stmt} {f : Addr} {fd : FuncData} {ps : List Str} (F : Fun K x qual st f fd)
    (h : ∀ (kV doc pm : Value) (an : Option Addr) (cdv ct : Value) (us : List Value), us.length = ps.length → bindArgs (PySem.W.fnOf x qual (defArgs st) (defBody st) (defScope st) .none kV doc pm an cdv ct) ⟨us, []⟩ = pure (ps.zip us)) : Binds K fd ps [] := by
  obtain ⟨oc, od, kV, doc, pm, an, cdv, ct, osl, rfl, lk, hcd⟩ := F.ex
  exact .all (h kV doc pm an cdv ct)
theorem fun_mk {x qual : Str} {st : Stmt} {f : Addr} {oc : Value} {od an : Option Addr} {osl : Array (Option Value)} {kV doc pm cdv ct : Value} (l : K.lookup f = some ⟨oc, od, .func (PySem.W.fnOf x qual (defArgs st) (defBody st) (defScope st) .none kV doc pm an cdv ct), osl⟩)
    (c : PySem.W.codeIn K cdv qual = true) (k : PySem.W.keepIn K (.ref f) = true) : Fun K x qual st f (PySem.W.fnOf x qual (defArgs st) (defBody st) (defScope st) .none kV doc pm an cdv ct) := ⟨⟨oc, od, kV, doc, pm, an, cdv, ct, osl, rfl, l, c⟩, k⟩
end
theorem small1000 {n : Nat} (h : n ≤ 1000) : n < sizeLine := Nat.lt_of_le_of_lt h (by decide)

/-! ### expressions in short: the name that stands in the i-th slot -/
section
variable {X : Cx}
end

/-! ### tests -/
theorem iteF {A B : Prop} (h : B) : if false = true then A else B := by
  rw [if_neg Bool.false_ne_true]
  exact h
theorem iteT {A B : Prop} (h : A) : if true = true then A else B := by
  rw [if_pos rfl]
  exact h
/-! ### heaps -/
/-- all that was tracked is as it was -/
def Same (H H' : Hp) : Prop := ∀ b o, H b = some o → H' b = some o
theorem Same.refl (H : Hp) : Same H H := fun _ _ h => h
theorem Same.trans {H H1 H2 : Hp} (a : Same H H1) (b : Same H1 H2) : Same H H2 := fun c o h => b c o (a c o h)
theorem Same.free {H H' : Hp} (e : Same H H') {l : Addr} (h : H' l = Option.none) : H l = Option.none := by
  cases q : H l with
  | none => rfl
  | some o =>
    rw [e l o q] at h
    cases h
theorem Same.seq {K : PySem.W.Frag} {H H' : Hp} {a : Addr} {xs : List V} (e : Same H H') (h : SqL K H a xs) : SqL K H' a xs := by
  rcases h with (h | ⟨o, h⟩) | h
  · exact .inl (.inl (e _ _ h))
  · exact .inl (.inr ⟨o, e _ _ h⟩)
  · exact .inr h

/-! ### a dict's pairs: keys that differ -/
section
variable {κ : Type} [DecidableEq κ]
end
end L2
set_option Elab.async false
set_option linter.all false
set_option maxRecDepth 100000
namespace L2
open PySem PySem.Spec PyProof.Rows
/-! ### tuples: times, plus with an empty left side -/
theorem noFill_tuple_mul : fillsNumberSlot (.type "tuple") "mul" = pure false :=
  PySem.fillsNumberSlot_seq (id := "tuple.__mul__") (r := some (.builtin "tuple.__rmul__")) F.slot_tuple_mul.lookup (by decide +kernel) F.slot_tuple_rmul.lookup (by decide +kernel)
theorem repeat_tuple : seqRepeat? (.type "tuple") = pure (some (.builtin "tuple.__mul__")) := by
  unfold seqRepeat?
  rw [PySem.seqSlot_of (T := "tuple") (name := "__mul__") (id := "tuple.__mul__") F.slot_tuple_mul.lookup (by decide +kernel), PySem.seqSlot_of (T := "tuple") (name := "__rmul__") (id := "tuple.__rmul__") F.slot_tuple_rmul.lookup (by decide +kernel)]
  rfl
theorem int_rmul_tuple_any (a : Int) (t : Tok) (l : Addr) (items : Array Value) (n : Nat) (d : Option Addr) (sl : Array (Option Value)) :
    Meets (Builtin.«int.__rmul__» ⟨[.int a t, .ref l], []⟩) (fun _ R s => s.heap.get? l = some { cls := .type "tuple", dict := d, data := .seq items n, slots := sl } ∧ R (.ok (.ret Value.notImplemented)) s) :=
  .of_wp fun prog w A R s h => by obtain ⟨hp, g, d, tk, os⟩ := s; obtain ⟨hl, h⟩ := h; wp_walk; exact ⟨_, rfl, h⟩
theorem tuple_mul_one (l : Addr) (items : Array Value) (n : Nat) (d : Option Addr) (sl : Array (Option Value)) (u : Tok) :
    Meets (Builtin.«tuple.__mul__» ⟨[.ref l, .int 1 u], []⟩) (fun _ R s => s.heap.get? l = some { cls := .type "tuple", dict := d, data := .seq items n, slots := sl } ∧ R (.ok (.ret (Value.ref l))) s) :=
  .of_wp fun prog w A R s h => by
    obtain ⟨hp, g, d, tk, os⟩ := s; obtain ⟨hl, h⟩ := h
    have f1 := AutoSeq1.idx_int
    wp_walk using wpAny_loadPart' hl
    exact ⟨_, rfl, h⟩
theorem tuple_mul_more (l : Addr) (items : Array Value) (n : Nat) (d : Option Addr) (sl : Array (Option Value)) (x : Int) (u : Tok) (h0 : items.isEmpty = false) (h1 : 1 < x) (h2 : x < 2 ^ 63) (hz : items.size * x.toNat ≤ sizeLine) :
    Meets (Builtin.«tuple.__mul__» ⟨[.ref l, .int x u], []⟩) (fun _ R s => s.heap.get? l = some { cls := .type "tuple", dict := d, data := .seq items n, slots := sl } ∧
      R (.ok (.ret (Value.ref s.heap.objs.size))) { s with heap := s.heap.push { cls := Value.type "tuple", data := Data.seq (List.foldl (fun x1 x2 => x1 ++ x2) #[] (List.replicate x.toNat items)) } }) :=
  .of_wp fun prog w A R s h => by
    obtain ⟨hp, g, d, tk, os⟩ := s; obtain ⟨hl, h⟩ := h
    have f1 := AutoSeq1.idx_int
    have ex : (items.size : Int) * x = ((items.size * x.toNat : Nat) : Int) := by
      rw [Int.natCast_mul, Int.toNat_of_nonneg (by omega)]
    have hl2 : (sizeLine : Nat) ≤ (2 ^ 63 - 1) / 8 := by decide
    have e1 : ¬ (decide (x < -2 ^ 63) || decide (x ≥ 2 ^ 63)) = true := by simp; omega
    have e2 : ¬ (items.isEmpty || x == 1) = true := by rw [h0]; simp; omega
    have e3 : ¬ (decide (x ≤ 0) || items.isEmpty) = true := by rw [h0]; simp; omega
    have e4 : ¬ ((items.size : Int) * x > (2 ^ 63 - 1) / 8) := by rw [ex]; omega
    have e5 : ¬ Builtin.Tuple.tupleTooMany ((items.size : Int) * x) = true := by
      rw [ex]; intro hq
      have h3 : ((items.size * x.toNat : Nat) : Int) > (sizeLine : Int) := of_decide_eq_true hq
      generalize items.size * x.toNat = N at *
      omega
    have fl : ∀ k : Nat, (List.foldl (fun x1 x2 => x1 ++ x2) #[] (List.replicate k items)).size = items.size * k := by
      intro k
      have : ∀ (k : Nat) (acc : Array Value), (List.foldl (fun x1 x2 => x1 ++ x2) acc (List.replicate k items)).size = acc.size + items.size * k := by
        intro k
        induction k with
        | zero => intro acc; simp
        | succ k ih => intro acc; rw [List.replicate_succ, List.foldl_cons, ih, Array.size_append, Nat.mul_succ]; omega
      rw [this]; simp
    wp_walk using wpAny_loadPart' hl
    rw [if_neg e1]
    wp_walk using wpAny_loadPart' hl
    rw [if_neg e2]
    wp_walk using wpAny_loadPart' hl
    rw [if_neg e3]
    wp_walk using wpAny_loadPart' hl
    rw [if_neg e4]
    wp_walk using wpAny_loadPart' hl
    rw [if_neg e5]
    wp_walk using wpAny_loadPart' hl
    exact ⟨_, rfl, h⟩
section
variable {X : Cx}
def rRepT (K : PySem.W.Frag) : R2 := fun x y H Q => ∃ a k xs, x = .ref a ∧ y = .int k ∧ SqT K H a xs ∧ xs ≠ [] ∧ 1 ≤ k ∧ k < 2 ^ 63 ∧ xs.length * k.toNat ≤ sizeLine ∧
  (k = 1 → Q (.ref a) H) ∧ (1 < k → ∀ p, H p = none → Q (.ref p) (upd H p (.tup (List.replicate k.toNat xs).flatten)))
theorem op_repT : OpR X (binaryOp .Mult) (rRepT X.K) := by
  intro pins s σ H x y v u Q I rx ry h
  obtain ⟨a, k, xs, rfl, rfl, hx, hne, h1, h2, hz, q1, q2⟩ := h
  cases rx
  obtain ⟨t, rfl⟩ := ry
  obtain ⟨its, r, ht, hl⟩ := I.tuple hx
  have hlen := r.length
  obtain ⟨⟨cls, dd, data, sl⟩, ho, hc, n, hd⟩ := id ht
  simp only at hc hd
  subst hc hd
  refine wpAny_binaryOp_repeat_ref (T := "tuple") (U := "int") (by decide) ⟨_, ho, rfl⟩ (fun s' => typeIs_int s' k t) noFill_tuple_mul F.fills_int_mul F.slot_int_rmul repeat_tuple F.slot_int_index.lookup
    (call_meets F.slot_int_rmul (typeIs_int s k t) F.entry_int_rmul (F.args_int_rmul_2 _ _) (int_rmul_tuple_any k t a its.toArray n dd sl) ⟨ho, rfl, ⟨_, ho, rfl⟩, ?_⟩)
  by_cases hk : k = 1
  · subst hk
    exact call_meets F.slot_tuple_mul ⟨_, ho, rfl⟩ F.entry_tuple_mul (F.args_tuple_mul_2 _ _) (tuple_mul_one a its.toArray n dd sl t) ⟨ho, ⟨.ref a, H, I, rfl, q1 rfl⟩⟩
  · have h0 : its.toArray.isEmpty = false := by
      cases its with
      | nil =>
        cases xs with
        | nil => exact absurd rfl hne
        | cons _ _ => simp at hlen
      | cons _ _ => simp
    refine call_meets F.slot_tuple_mul ⟨_, ho, rfl⟩ F.entry_tuple_mul (F.args_tuple_mul_2 _ _)
      (tuple_mul_more a its.toArray n dd sl k t h0 (by omega) h2 (by rw [List.size_toArray, ← hlen]; exact hz)) ⟨ho, ?_⟩
    have hnew : List.foldl (fun x1 x2 => x1 ++ x2) #[] (List.replicate k.toNat its.toArray) = (List.replicate k.toNat its).flatten.toArray := by
      have := foldl_rep its k.toNat []
      rw [List.nil_append] at this
      exact this
    rw [hnew]
    refine ⟨.ref s.heap.objs.size, _, I.laid (t' := s.toks) (o := .tup (List.replicate k.toNat xs).flatten) (fun b ob q => Heap.get?_push_of_some _ q) (Nat.le_refl _) ?_, rfl, q2 (by omega) _ (I.hok.fresh (Nat.le_refl _))⟩
    exact ⟨by rw [len_rep, Nat.mul_comm]; exact hz, _, r.rep k.toNat, IsTup.new _ _⟩
/-- t + u, any two tuples -/
def rCatA (K : PySem.W.Frag) : R2 := fun x y H Q => ∃ a b xs ys, x = .ref a ∧ y = .ref b ∧ SqT K H a xs ∧ SqT K H b ys ∧ xs.length + ys.length ≤ sizeLine ∧
  (xs = [] → Q (.ref b) H) ∧ (xs ≠ [] → ys = [] → Q (.ref a) H) ∧ (xs ≠ [] → ys ≠ [] → ∀ p, H p = none → Q (.ref p) (upd H p (.tup (xs ++ ys))))
theorem op_catA : OpR X (binaryOp .Add) (rCatA X.K) := by
  intro pins s σ H x y v u Q I rx ry h
  obtain ⟨a, b, xs, ys, rfl, rfl, ha, hb, hz, q0, q1, q2⟩ := h
  by_cases hx : xs = []
  · cases rx
    cases ry
    subst hx
    obtain ⟨its, r1, p1, _⟩ := I.tuple ha
    obtain ⟨its2, r2, p2, _⟩ := I.tuple hb
    obtain ⟨⟨cls, dd, data, sl⟩, ho, hc, n, hd⟩ := id p1
    obtain ⟨⟨cls2, dd2, data2, sl2⟩, ho2, hc2, n2, hd2⟩ := id p2
    simp only at hc hd hc2 hd2
    subst hc hd hc2 hd2
    have e0 : its.toArray.isEmpty = true := by
      have := (r1.nil_iff.mpr rfl)
      rw [this]; rfl
    exact concat_meets ⟨_, ho, rfl⟩ ⟨_, ho2, rfl⟩ noFill_tuple_add seq_tuple_add PySem.F.slot_tuple_add PySem.F.entry_tuple_add (PySem.F.args_tuple_add_2 _ _)
      (tuple_addW0 a b its.toArray its2.toArray n n2 dd dd2 sl sl2 e0) ⟨ho, ho2, ⟨.ref b, H, I, rfl, q0 rfl⟩⟩
  · exact op_catT pins s σ H (.ref a) (.ref b) v u Q I rx ry ⟨a, b, xs, ys, rfl, rfl, ha, hb, hx, hz, q1 hx, q2 hx⟩
/-! ### isinstance, by the kinds' names -/
def kitB (a T : String) : Bool := a == T || (a == "bool" && T == "int")
theorem kit_b (K : PySem.W.Frag) {a T : String} (ha : a ∈ ["int", "bool", "str", "NoneType", "list", "tuple", "dict"]) (hT : T ∈ ["int", "bool", "str", "list", "tuple", "dict"]) :
    PySem.W.kitOne K (.type a) (.type T) = some (kitB a T) := by
  simp only [List.mem_cons, List.not_mem_nil, or_false] at ha hT
  rcases ha with rfl | rfl | rfl | rfl | rfl | rfl | rfl <;> rcases hT with rfl | rfl | rfl | rfl | rfl | rfl <;> with_unfolding_all rfl
/-- the name of a value's type -/
inductive TyN (K : PySem.W.Frag) (H : Hp) : V → String → Prop where
  | non : TyN K H .non "NoneType"
  | bl (x : Bool) : TyN K H (.bl x) "bool"
  | int (i : Int) : TyN K H (.int i) "int"
  | str (x : Str) : TyN K H (.str x) "str"
  | lst {a : Addr} {xs : List V} (e : H a = some (.lst xs)) : TyN K H (.ref a) "list"
  | tup {a : Addr} {xs : List V} (e : H a = some (.tup xs)) : TyN K H (.ref a) "tuple"
  | dK {a : Addr} {kvs : List (Key × V)} (e : H a = some (.dK kvs)) : TyN K H (.ref a) "dict"
theorem TyN.of {K : PySem.W.Frag} {H : Hp} {x : V} {a : String} (h : TyN K H x a) : TyOf K H x (.type a) ∧ a ∈ ["int", "bool", "str", "NoneType", "list", "tuple", "dict"] := by
  cases h with
  | non => exact ⟨.non, by simp⟩
  | bl x => exact ⟨.bl x, by simp⟩
  | int i => exact ⟨.int i, by simp⟩
  | str x => exact ⟨.str x, by simp⟩
  | lst e => exact ⟨.lst e, by simp⟩
  | tup e => exact ⟨.tup e, by simp⟩
  | dK e => exact ⟨.dK e, by simp⟩
def rIsi (K : PySem.W.Frag) : List V → Hp → VK → Prop := fun xs H Q => ∃ x T a, xs = [x, .ty T] ∧ T ∈ ["int", "bool", "str", "list", "tuple", "dict"] ∧ TyN K H x a ∧ Q (.bl (kitB a T)) H
theorem call_isi : CallR X (.builtin "isinstance") (rIsi X.K) := by
  intro pins s σ H xs us Q I r h
  obtain ⟨x, T, a, rfl, hT, ty, q⟩ := h
  obtain ⟨u1, u2, rfl, r1, r2⟩ := vals2 r
  cases (show u2 = Value.type T from r2)
  obtain ⟨t1, t2⟩ := ty.of
  exact isinst_ok I r1 t1 (kit_b X.K t2 hT) fun tk => ⟨.bl _, H, I.tok tk, rfl, q⟩
end
end L2

set_option Elab.async false
set_option linter.all false
set_option maxRecDepth 100000
namespace L2
open PySem PySem.Spec PyProof.Rows
/-! ### a list comprehension over one name -/
theorem closure_go {env : Env} : ∀ (l : List (Str × NameKind)) (cs₀ : List (Str × Addr)), (∀ x ∈ l, x.2 = .free → ∃ c, env.cells.lookup x.1 = some c) →
    ∃ cs, (forIn l cs₀ (fun (x : Str × NameKind) (r : List (Str × Addr)) => if (x.2 == NameKind.free) = true then (do let c ← cellOf env x.1; pure (ForInStep.yield ((x.1, c) :: r))) else pure (ForInStep.yield r)) : Sem (List (Str × Addr))) = pure cs ∧
      (∀ y c, cs.lookup y = some c → cs₀.lookup y = some c ∨ env.cells.lookup y = some c) ∧ (∀ y c, cs₀.lookup y = some c → ∃ c', cs.lookup y = some c') ∧ (∀ x ∈ l, x.2 = .free → ∃ c, cs.lookup x.1 = some c)
  | [], cs₀, _ => ⟨cs₀, by simp, fun _ _ h => .inl h, fun _ c h => ⟨c, h⟩, fun _ h => nomatch h⟩
  | (n, k) :: l, cs₀, h => by
    by_cases hk : k = .free
    · obtain ⟨c, hc⟩ := h (n, k) List.mem_cons_self hk
      obtain ⟨cs, e, h1, h2, h3⟩ := closure_go l ((n, c) :: cs₀) fun x hx => h x (List.mem_cons_of_mem _ hx)
      refine ⟨cs, ?_, fun y c' hy => ?_, fun y c' hy => ?_, fun x hx hxk => ?_⟩
      · subst hk
        have ec : cellOf env n = pure c := by unfold cellOf; rw [hc]
        rw [List.forIn_cons]
        simp only [beq_self_eq_true, if_true, ec, pure_bind]
        exact e
      · rcases h1 y c' hy with z | z
        · rw [List.lookup_cons] at z
          split at z
          · rename_i hyn
            have : y = n := by simpa using hyn
            subst this
            cases z
            exact .inr hc
          · exact .inl z
        · exact .inr z
      · by_cases hyn : y = n
        · subst hyn
          exact h2 y c (by simp [List.lookup_cons])
        · refine h2 y c' ?_
          rw [List.lookup_cons]
          have : (y == n) = false := by simpa using hyn
          rw [this]
          exact hy
      · rcases List.mem_cons.mp hx with rfl | hx
        · exact h2 n c (by simp [List.lookup_cons])
        · exact h3 x hx hxk
    · obtain ⟨cs, e, h1, h2, h3⟩ := closure_go l cs₀ fun x hx => h x (List.mem_cons_of_mem _ hx)
      refine ⟨cs, ?_, h1, h2, fun x hx hxk => ?_⟩
      · rw [List.forIn_cons]
        have : (k == NameKind.free) = false := by simpa using hk
        simp only [this, Bool.false_eq_true, if_false, pure_bind]
        exact e
      · rcases List.mem_cons.mp hx with rfl | hx
        · exact absurd hxk hk
        · exact h3 x hx hxk
theorem closure_of {scope : Scope} {env : Env} (h : ∀ x ∈ scope.names, x.2 = .free → ∃ c, env.cells.lookup x.1 = some c) :
    ∃ cl, closureFor scope env = pure cl ∧ (∀ y c, cl.lookup y = some c → env.cells.lookup y = some c) ∧ (∀ x ∈ scope.names, x.2 = .free → ∃ c, cl.lookup x.1 = some c) := by
  obtain ⟨cs, e, h1, _, h3⟩ := closure_go (env := env) scope.names [] h
  refine ⟨cs, ?_, fun y c hy => (h1 y c hy).elim (fun z => nomatch z) id, h3⟩
  exact (congrArg (fun t : Sem (List (Str × Addr)) => t >>= fun r => pure r) e).trans (pure_bind ..)
theorem relabel_inv {env : Env} : ∀ {names : List (Str × NameKind)} {x : Str} {k : NameKind}, (∀ y ∈ names, y.2 ≠ .cell) →
    (names.map fun (n, k) => if (k == NameKind.free && env.scope.kind == .function && env.kindOf n == some .cell) then (n, NameKind.cell) else (n, k)).lookup x = some k →
    (k = .cell ∨ k = .free) ∧ names.lookup x = some .free ∨ names.lookup x = some k
  | [], _, _, _, h => by simp at h
  | (n, j) :: r, x, k, hc, h => by
    have ih := @relabel_inv env r x k (fun y hy => hc y (List.mem_cons_of_mem _ hy))
    have h : List.lookup x ((if (j == NameKind.free && env.scope.kind == .function && env.kindOf n == some .cell) = true then (n, NameKind.cell) else (n, j)) :: _) = some k := h
    cases hx : x == n with
    | true =>
      by_cases hq : (j == NameKind.free && env.scope.kind == .function && env.kindOf n == some .cell) = true
      · rw [if_pos hq] at h
        simp only [List.lookup_cons, hx] at h
        cases h
        have hj : j = .free := by simp at hq; exact hq.1.1
        subst hj
        exact .inl ⟨.inl rfl, by simp [List.lookup_cons, hx]⟩
      · rw [if_neg hq] at h
        simp only [List.lookup_cons, hx] at h
        exact .inr (by simp only [List.lookup_cons, hx]; exact h)
    | false =>
      have h' : (r.map fun (n, k) => if (k == NameKind.free && env.scope.kind == .function && env.kindOf n == some .cell) then (n, NameKind.cell) else (n, k)).lookup x = some k := by
        by_cases hq : (j == NameKind.free && env.scope.kind == .function && env.kindOf n == some .cell) = true
        · rw [if_pos hq] at h; simpa only [List.lookup_cons, hx] using h
        · rw [if_neg hq] at h; simpa only [List.lookup_cons, hx] using h
      simp only [List.lookup_cons, hx]
      exact ih h'
/-- one turn of a comprehension, whatever its target -/
theorem compLoop_own {prog : Program} {w : World} {A : Around} {R : Result → Shared → Prop} {s : Shared} {elt target iter : Expr} {ifs : List Expr} {scope : Scope} {pos : Pos} {it acc : Value} {env : Env} (I : Nat → Shared → Prop)
    (turn : ∀ n s, I n s → wpAny (model prog w) A (pyNext it) (fun r s₁ => match r with
      | none => R (.ok .next) s₁
      | some v => wpAny (model prog w) A (letOwnedTupleGo target it v) (fun _ s₁' => wpAny (model prog w) A (assign target env v) (fun _ s₂ =>
          wpAny (model prog w) A (forIn ifs true fun c r => if r = true then do let ok ← isTrue c env (eval c env); pure (ForInStep.yield ok) else pure (ForInStep.yield r)) (fun ok s₃ =>
            if ok = true then wpAny (model prog w) A (eval elt env) (fun x s₄ =>
              wpAny (model prog w) A (call (.builtin "list.append") [acc, x]) (fun _ s₅ => ∃ m, m < n ∧ I m s₅) (fun _ _ => False) s₄) (fun _ _ => False) s₃
            else ∃ m, m < n ∧ I m s₃) (fun _ _ => False) s₂) (fun _ _ => False) s₁') (fun _ _ => False) s₁) (fun _ _ => False) s)
    (n : Nat) (h : I n s) :
    codeAny (model prog w) A (.compLoop (.ListComp elt [⟨target, iter, ifs, 0⟩] scope pos) 0 it acc env) R s := by
  refine codeAny_loop rfl I (fun n s hI => ?_) n h
  show wpAny _ A ((compTurn (.ListComp elt [⟨target, iter, ifs, 0⟩] scope pos) 0 it acc env).onRaise (fun x => do noteFrame x env; theTreesLotGoes x)) _ _ s
  refine wpAny_noted ?_
  rw [compTurn_list]
  refine wpAny_bind (wpAny_standAt (wpAny_bind (wpAny_mono (turn n s hI) (fun r s₁ h₁ => ?_) fun _ _ h' => h'.elim)))
  cases r with
  | none => exact wpAny_pure h₁
  | some v =>
    refine wpAny_bind (wpAny_mono h₁ (fun _ s₁' h₁' => ?_) fun _ _ h' => h'.elim)
    refine wpAny_bind (wpAny_mono h₁' (fun _ s₂ h₂ => wpAny_bind (wpAny_mono h₂ (fun ok s₃ h₃ => ?_) fun _ _ h' => h'.elim)) fun _ _ h' => h'.elim)
    cases ok with
    | false => exact wpAny_pure ⟨rfl, h₃⟩
    | true =>
      exact wpAny_bind (wpAny_bind (wpAny_mono h₃ (fun x s₄ h₄ => wpAny_bind (wpAny_mono h₄ (fun _ s₅ h₅ => wpAny_pure (wpAny_pure ⟨rfl, h₅⟩)) fun _ _ h' => h'.elim)) fun _ _ h' => h'.elim))
/-- the block's context -/
abbrev cxComp (X : Cx) (N' : List Str) (scope : Scope) (cl : List (Str × Addr)) (C : Addr) (s2 : Shared) (H2 : Hp) (fp : List Addr) : Cx :=
  { X with N := N', s₀ := s2, H₀ := H2, env := compEnvC scope cl C X.env, outer := X.stack, stack := X.stack, ex := fp, fn := fun _ => false, pn := [], xe := fun _ _ => False }
/-- the outer names' values in the block -/
def pick (ix : List (Option Nat)) (σ : St) : St := ix.map fun o => o.bind fun j => (σ[j]?).join
theorem pick_get {ix : List (Option Nat)} {σ : St} {i : Nat} {v : V} (h : (pick ix σ)[i]? = some (some v)) : ∃ j, ix[i]? = some (some j) ∧ σ[j]? = some (some v) := by
  unfold pick at h
  rw [List.getElem?_map] at h
  cases e : ix[i]? with
  | none => rw [e] at h; cases h
  | some o =>
    rw [e] at h
    have h : (o.bind fun j => (σ[j]?).join) = some v := Option.some.inj h
    cases o with
    | none => cases h
    | some j =>
      refine ⟨j, rfl, ?_⟩
      have h : (σ[j]?).join = some v := h
      cases e2 : σ[j]? with
      | none => rw [e2] at h; cases h
      | some q => rw [e2] at h; rw [show q = some v from h]
/-- what the text must say of the block -/
structure CompOk (X : Cx) (N' : List Str) (scope : Scope) (ix : List (Option Nat)) : Prop where
  kind : scope.kind = .function
  nocell : ∀ y ∈ scope.names, y.2 ≠ .cell
  names : ∀ y ∈ scope.names, y.2 = .local → scope.names.lookup y.1 = some .local
  free : ∀ y ∈ scope.names, y.2 = .free → X.env.kindOf y.1 = some .cell ∨ X.env.kindOf y.1 = some .free
  nd : N'.Nodup
  len : ix.length = N'.length
  ixs : ∀ (i j : Nat) (x : Str), ix[i]? = some (some j) → N'[i]? = some x → X.N[j]? = some x ∧ scope.names.lookup x ≠ some .local
theorem mem_of_lookup' {κ β : Type} [BEq κ] [LawfulBEq κ] {l : List (κ × β)} {x : κ} {k : β} (h : l.lookup x = some k) : (x, k) ∈ l := by
  induction l with
  | nil => cases h
  | cons p l ih =>
    obtain ⟨a, b⟩ := p
    rw [List.lookup_cons] at h
    split at h
    · rename_i e
      have : x = a := by simpa using e
      subst this
      cases h
      exact List.mem_cons_self
    · exact List.mem_cons_of_mem _ (ih h)
section
variable {X : Cx} {pins : List (Addr × Obj)} {σ : St} {H2 : Hp} {s2 : Shared} {N' : List Str} {scope : Scope} {ix : List (Option Nat)} {fp : List Addr} {cl : List (Str × Addr)}
theorem comp_start (O : CompOk X N' scope ix) (I : Inv X pins σ H2 s2) (fpo : ∀ b ∈ fp, FpOk X pins H2 b) (fpl : ∀ b ∈ fp, b < s2.heap.objs.size)
    (cls : ∀ y c, cl.lookup y = some c → X.env.cells.lookup y = some c) (clh : ∀ x ∈ scope.names, x.2 = .free → ∃ c, cl.lookup x.1 = some c) {h1 : Heap} {D C : Addr} {t' : Nat} (hD : D = s2.heap.objs.size) (hC : C = s2.heap.objs.size + 1)
    {m : Str → Option Value} (hns : h1.Ns C m) (hk : ∀ b o, s2.heap.get? b = some o → h1.get? b = some o) {nn : Nat} (hl : h1.get? D = some { cls := .type "list", data := .seq #[] nn }) :
    Inv (cxComp X N' scope cl C s2 H2 fp) [] (pick ix σ) (upd H2 D (.lst [])) { s2 with heap := h1, toks := t' } := by
  subst hD hC
  have lookF : ∀ x, scope.names.lookup x = some .free → ∃ c, cl.lookup x = some c := fun x hx => clh (x, .free) (mem_of_lookup' hx) rfl
  have inF : ∀ {x : Str} {k : NameKind}, (relabel scope X.env).names.lookup x = some k → (k = .cell ∨ k = .free) → scope.names.lookup x = some .free := fun {x k} h hk => by
    rcases relabel_inv O.nocell h with ⟨_, z⟩ | z
    · exact z
    · rcases hk with rfl | rfl
      · exact absurd rfl (O.nocell _ (mem_of_lookup' z))
      · exact z
  refine ⟨⟨I.ok.mod, O.kind, I.ok.glob, I.ok.blt, Nat.le_succ _, fun x y c e1 e2 => I.ok.inj x y c (cls x c e1) (cls y c e2), fun x hx => ?_, fun _ _ z => absurd z (by simp), I.ok.hd, I.ok.frames, .inl rfl, fun b hb => ⟨Nat.ne_of_lt (Nat.lt_succ_of_lt (fpl b hb)), fun x c e => (fpo b hb).2.2.2.2.1 x c (cls x c e)⟩,
    I.bs, Nat.le_trans I.ok.bsz I.sz, fun b o e hb => ?_, fun b hb z => ?_, I.stack, I.stkFree⟩, rfl, I.bare, Un.laid hk (Nat.le_refl _) (I.hok.fresh (Nat.le_refl _)), ⟨m, hns, fun i x v e1 e2 e3 => ?_⟩, fun x c e => ?_, ?_, fun x c e => ?_, fun p hp => absurd hp (by simp), ?_, ?_⟩
  · have hx : (relabel scope X.env).names.lookup x = some .cell ∨ (relabel scope X.env).names.lookup x = some .free := hx
    rcases hx with hx | hx
    · exact lookF x (inF hx (.inl rfl))
    · exact lookF x (inF hx (.inr rfl))
  · rcases (fpo b hb).2.2.2.1 with z | z
    · exact I.ok.noex b o e z
    · exact absurd (Nat.lt_of_lt_of_le (Heap.lt_size e) (Nat.le_trans I.ok.bsz z)) (Nat.lt_irrefl _)
  · obtain ⟨_, f1, f2, _⟩ := fpo b hb
    rcases List.mem_cons.mp (I.stkSub b z) with q | q
    · exact f1 q
    · exact f2 q
  · obtain ⟨j, q1, q2⟩ := pick_get e2
    obtain ⟨q3, q4⟩ := O.ixs i j x q1 e1
    have hF : scope.names.lookup x = some .free := by
      have e3 : (relabel scope X.env).names.lookup x = some .local ∨ (relabel scope X.env).names.lookup x = some .cell ∨ (relabel scope X.env).names.lookup x = some .free := e3
      rcases e3 with z | z | z
      · rcases relabel_inv O.nocell z with ⟨q, _⟩ | q
        · rcases q with q | q <;> cases q
        · exact absurd q q4
      · exact inF z (.inl rfl)
      · exact inF z (.inr rfl)
    obtain ⟨c, hc⟩ := lookF x hF
    have kF := O.free (x, .free) (mem_of_lookup' hF) rfl
    obtain ⟨mX, hnX, hlX⟩ := I.loc
    obtain ⟨u, ru, lk⟩ := hlX j x v q3 q2 (kF.elim (fun z => .inr (.inl z)) fun z => .inr (.inr z))
    refine ⟨u, ru, ?_⟩
    rcases lk with ⟨z, _⟩ | ⟨_, c', hc', hcell⟩
    · have z : X.env.kindOf x = some .local := z
      rcases kF with y | y <;> (rw [show X.env.kindOf x = _ from y] at z; cases z)
    · rw [cls x c hc] at hc'
      cases hc'
      refine .inr ⟨?_, c, hc, hcell.keeps hk⟩
      rcases e3 with z | z | z
      · have z : (relabel scope X.env).names.lookup x = some .local := z
        rcases relabel_inv O.nocell z with ⟨q, _⟩ | q
        · rcases q with q | q <;> cases q
        · exact absurd q q4
      · exact .inl z
      · exact .inr z
  · obtain ⟨v, z⟩ := I.cell x c (cls x c e)
    exact ⟨v, z.keeps hk⟩
  · show upd H2 s2.heap.objs.size (.lst []) (s2.heap.objs.size + 1) = none
    rw [upd_ne (Nat.succ_ne_self _)]
    exact I.hok.fresh (Nat.le_succ _)
  · obtain ⟨v, z⟩ := I.cell x c (cls x c e)
    show upd H2 s2.heap.objs.size (.lst []) c = none
    rw [upd_ne (Nat.ne_of_lt z.lt)]
    exact I.freeC x c (cls x c e)
  · exact I.hok.laid hk (Nat.le_refl _) ⟨Nat.zero_le _, [], nn, .nil, hl⟩
  · show (pick ix σ).length = N'.length
    unfold pick
    rw [List.length_map]
    exact O.len
end

/-- the tests of a comprehension -/
def PIf (X : Cx) (ifs : List Expr) (tc : TT) : Prop :=
  ∀ (pins : List (Addr × Obj)) (s : Shared) (σ : St) (H : Hp) (Q : Bool → Hp → Prop), Inv X pins σ H s → tc σ H Q →
    wpAny (model X.prog X.w) X.A (forIn ifs true fun c r => if r = true then do let ok ← isTrue c X.env (eval c X.env); pure (ForInStep.yield ok) else pure (ForInStep.yield r)) (TP X pins σ Q) X.xe s
def tTrue : TT := fun _ H Q => Q true H
theorem pif_nil {X : Cx} : PIf X [] tTrue := fun _ _ _ H _ I h => wpAny_tests_nil ⟨H, I, h⟩
theorem pif_one {X : Cx} {c : Expr} {tc : TT} (h : PT X c tc) : PIf X [c] tc := fun pins s σ H Q I hw => wpAny_tests_one (h pins s σ H Q I hw)
/-- what the turns of a comprehension want: W by the turn and a measure; D is the new list -/
def compW (J : It) (D : Addr) (σ0 : St) (i0 : Nat) (tc : TT) (te : TE) (Q : VK) (W : Nat → Nat → Hp → Prop) : Prop :=
  ∀ i m H, W i m H → (J.stop i H ∧ Q (.ref D) H) ∨ (J.go i H ∧ ∀ x H', J.yld i H x H' → tc (σ0.set i0 (some x)) H' fun b H3 =>
    if b = true then te (σ0.set i0 (some x)) H3 fun y H4 => ∃ ys, H4 D = some (.lst ys) ∧ ys.length < sizeLine ∧ ∃ m', m' < m ∧ W (i + 1) m' (upd H4 D (.lst (ys ++ [y])))
    else ∃ m', m' < m ∧ W (i + 1) m' H3)
def tComp (wi : TI) (ix : List (Option Nat)) (i0 : Nat) (tc : TT) (te : TE) : TE := fun σ H Q => wi σ H fun J H1 => ∀ D, H1 D = none →
  ∃ W : Nat → Nat → Hp → Prop, (∃ m, W 0 m (upd H1 D (.lst []))) ∧ compW J D (pick ix σ) i0 tc te Q W
section
variable {X : Cx} {pins : List (Addr × Obj)} {σ : St} {H2 : Hp} {s2 : Shared} {N' : List Str} {scope : Scope} {ix : List (Option Nat)} {fp : List Addr} {cl : List (Str × Addr)}
theorem comp_back {C : Addr} {pins' : List (Addr × Obj)} {σ' : St} {H' : Hp} {s4 : Shared} (I : Inv X pins σ H2 s2) (fpo : ∀ b ∈ fp, FpOk X pins H2 b) (J : Inv (cxComp X N' scope cl C s2 H2 fp) pins' σ' H' s4) : Inv X pins σ H' s4 :=
  I.call' (ch := fp) J.os J.base J.hok J.bare fun b hb => ⟨(fpo b hb).2.2.2.1, (fpo b hb).2.1, (fpo b hb).2.2.2.2.1, (fpo b hb).2.2.2.2.2⟩
theorem comp_letgo {σ' : St} {H' : Hp} {s4 : Shared} {h' : Heap} {C : Addr} (I : Inv X pins σ H2 s2) (hC : s2.heap.objs.size ≤ C) (I4 : Inv X pins σ' H' s4) (hf : H' C = none) (hs : Heap.SameBut C s4.heap h') : Inv X pins σ' H' { s4 with heap := h' } := by
  refine I4.turned (it := C) (t' := s4.toks) (fun b o hb e => (hs.2 b hb).trans e) hf (Nat.ne_of_gt (Nat.lt_of_lt_of_le I.lt hC)) (.inr (Nat.le_trans I.sz hC)) (fun x c e z => ?_) fun p hp z => ?_
  · obtain ⟨v, q⟩ := I.cell x c e
    exact absurd (Nat.lt_of_lt_of_le q.lt (z ▸ hC)) (Nat.lt_irrefl _)
  · exact absurd (Nat.lt_of_lt_of_le (Heap.lt_size (I.pin p hp).1) (z ▸ hC)) (Nat.lt_irrefl _)
theorem comp_run {E : Value → Shared → Prop} {elt iter : Expr} {ifs : List Expr} {t : Str} {tp pos : Pos} {i0 : Nat} {tc : TT} {te : TE} {J : It} {it : Addr} {tn : Nat → Heap → Prop} {Q : VK} {RR : Value → Addr → Result → Shared → Prop}
    (O : CompOk X N' scope ix) (hc : X.calm = true) (hi0 : N'[i0]? = some t) (hx0 : ix[i0]? = some none) (htl : scope.names.lookup t = some .local) (I : Inv X pins σ H2 s2) (T : Turn X.prog X.w X.K (.Name t tp) J fp it tn) (st : tn 0 s2.heap) (fpo : ∀ b ∈ fp, FpOk X pins H2 b)
    (cls : ∀ y c, cl.lookup y = some c → X.env.cells.lookup y = some c) (clh : ∀ x ∈ scope.names, x.2 = .free → ∃ c, cl.lookup x.1 = some c)
    (hif : ∀ cl C s2 H2 fp, PIf (cxComp X N' scope cl C s2 H2 fp) ifs tc) (helt : ∀ cl C s2 H2 fp, PE (cxComp X N' scope cl C s2 H2 fp) elt te)
    {W : Nat → Nat → Hp → Prop} (w0 : ∃ m, W 0 m (upd H2 s2.heap.objs.size (.lst []))) (hW : compW J s2.heap.objs.size (pick ix σ) i0 tc te Q W)
    (hRR : ∀ C H' s', s2.heap.objs.size ≤ C → Inv (cxComp X N' scope cl C s2 H2 fp) [] (pick ix σ) H' s' → Q (.ref s2.heap.objs.size) H' → RR (.ref s2.heap.objs.size) C (.ok .next) s') :
    wpAny (model X.prog X.w) X.A (newList []) (fun acc s₃ => wpAny (model X.prog X.w) X.A (newFunctionEnv scope X.env.globals cl [] X.env.qual none .none (some X.env)) (fun cenv s₄ =>
      codeAny (model X.prog X.w) X.A (.compStart (.ListComp elt [⟨.Name t tp, iter, ifs, 0⟩] scope pos) 0 (.ref it) acc { cenv with scope := relabel scope X.env }) (RR acc cenv.locals) s₄) E s₃) E s2 := by
  refine wpAny_newObj_type (wpAny_newFunctionEnv O.nocell (by intro y hy; simp at hy) (fun h₁ hns₁ hsb₁ => ?_) O.kind)
  have fpl : ∀ b ∈ fp, b < s2.heap.objs.size := fun b hb => by
    obtain ⟨o, e, _⟩ := T.obj _ _ st b hb
    exact Heap.lt_size e
  have hCs : (s2.heap.push { cls := .type "list", dict := none, data := .seq ([] : List Value).toArray }).objs.size = s2.heap.objs.size + 1 := Heap.size_push ..
  have old : ∀ b o, s2.heap.get? b = some o → h₁.get? b = some o := fun b o e => by
    refine hsb₁.extBut b o ?_ (Heap.get?_push_of_some _ (Heap.get?_push_of_some _ e))
    exact Nat.ne_of_lt (by rw [hCs]; exact Nat.lt_succ_of_lt (Heap.lt_size e))
  have hacc : h₁.get? s2.heap.objs.size = some { cls := .type "list", data := .seq #[] } := by
    refine hsb₁.extBut _ _ ?_ (Heap.get?_push_of_some _ (Heap.get?_push_size _ rfl))
    exact Nat.ne_of_lt (by rw [hCs]; exact Nat.lt_succ_self _)
  obtain ⟨m0, w0⟩ := w0
  generalize hCg : (s2.heap.push { cls := .type "list", dict := none, data := .seq ([] : List Value).toArray }).objs.size = C at hns₁ hsb₁ hCs ⊢
  have I1 : Inv (cxComp X N' scope cl C s2 H2 fp) [] (pick ix σ) (upd H2 s2.heap.objs.size (.lst [])) { s2 with heap := h₁, toks := s2.toks + ([] : List (Str × Value)).length } :=
    comp_start O I fpo fpl cls clh rfl hCs hns₁ old hacc
  have st1 : tn 0 h₁ := T.keep _ _ _ st fun b _ o e => old b o e
  have fr1 : ∀ b ∈ fp, upd H2 s2.heap.objs.size (.lst []) b = none := fun b hb => by
    rw [upd_ne (Nat.ne_of_lt (fpl b hb))]
    exact (fpo b hb).1
  have loop : ∀ s₃ : Shared, s₃ = { s2 with heap := h₁, toks := s2.toks + ([] : List (Str × Value)).length } →
      codeAny (model X.prog X.w) X.A (.compLoop (.ListComp elt [⟨.Name t tp, iter, ifs, 0⟩] scope pos) 0 (.ref it) (.ref s2.heap.objs.size) (compEnvC scope cl C X.env)) (RR (.ref s2.heap.objs.size) C) s₃ := by
    rintro s₃ rfl
    have stat : ∀ {H' : Hp}, (∀ b ∈ fp, H' b = none) → ∀ b ∈ fp, FpOk (cxComp X N' scope cl C s2 H2 fp) [] H' b := fun {H'} hn b hb => by
      obtain ⟨_, f1, f2, _, f4, _⟩ := fpo b hb
      refine ⟨hn b hb, Nat.ne_of_lt (by show b < C; rw [hCs]; exact Nat.lt_succ_of_lt (fpl b hb)), fun z => ?_, .inl hb, fun x c e => f4 x c (cls x c e), fun p hp => absurd hp (by simp)⟩
      rcases List.mem_cons.mp (I.stkSub b z) with q | q
      · exact f1 q
      · exact f2 q
    refine compLoop_own (fun n s' => ∃ i H', Inv (cxComp X N' scope cl C s2 H2 fp) [] (pick ix σ) H' s' ∧ tn i s'.heap ∧ (∀ b ∈ fp, H' b = none) ∧ W i n H') ?_ m0 ⟨0, _, I1, st1, fr1, w0⟩
    rintro n s3 ⟨i, H3, I3, st3, fr3, w3⟩
    rcases hW i n H3 w3 with ⟨stop, q⟩ | ⟨go, step⟩
    · refine thn (T.done (cxComp X N' scope cl C s2 H2 fp) rfl rfl rfl hc i [] s3 (pick ix σ) H3 (fun _ _ => False) I3 (stat fr3) st3 stop) fun r s4 ⟨hr, I4⟩ => ?_
      subst hr
      exact hRR C H3 s4 (by rw [hCs]; exact Nat.le_succ _) I4 q
    · refine thn (T.item (cxComp X N' scope cl C s2 H2 fp) rfl rfl rfl hc i [] s3 (pick ix σ) H3 (fun _ _ => False) I3 (stat fr3) st3 go) fun r s4 ⟨u, hr, h4⟩ => ?_
      subst hr
      refine thn h4 fun _ s5 ⟨x, H5, I5, r5, y5, st5, fr5⟩ => ?_
      have I5' := I5.pinned (stat fr5) (T.obj _ _ st5)
      have htl' : (relabel scope X.env).names.lookup t = some .local := lookup_relabel_local htl
      have again : ∀ {s7 : Shared} {H7 : Hp} {m' : Nat}, Inv (cxComp X N' scope cl C s2 H2 fp) ([] ++ pinsAt fp s5.heap) ((pick ix σ).set i0 (some x)) H7 s7 → m' < n → W (i + 1) m' H7 →
          ∃ m, m < n ∧ ∃ i H', Inv (cxComp X N' scope cl C s2 H2 fp) [] (pick ix σ) H' s7 ∧ tn i s7.heap ∧ (∀ b ∈ fp, H' b = none) ∧ W i m H' := fun {s7 H7 m'} I7 hm w7 => by
        refine ⟨m', hm, i + 1, H7, I7.unpinned.weak (by rw [List.length_set]) (fun k v e => ?_), T.keep _ _ _ st5 fun b hb o e => (I7.pin (b, o) (List.mem_append_right _ (List.mem_append_right _ (mem_pinsAt hb e)))).1, fun b hb => ?_, w7⟩
        · by_cases hk : k = i0
          · subst hk
            obtain ⟨j, q, _⟩ := pick_get e
            rw [hx0] at q
            cases q
          · rw [List.getElem?_set_ne (Ne.symm hk)]
            exact e
        · obtain ⟨o, e, d⟩ := T.obj _ _ st5 b hb
          exact (I7.pin (b, o) (List.mem_append_right _ (List.mem_append_right _ (mem_pinsAt hb e)))).2.1
      refine thn (pg_name (X := cxComp X N' scope cl C s2 H2 fp) (i := i0) O.nd hi0 (.inl htl') (.inr htl') _ s5 (pick ix σ) H5 x u (fun σ6 H6 => σ6 = (pick ix σ).set i0 (some x) ∧ H6 = H5) I5' r5 ⟨rfl, rfl⟩) fun _ s6 ⟨σ6, H6, I6, e6, e6'⟩ => ?_
      subst e6 e6'
      refine thn (hif cl C s2 H2 fp _ s6 _ H6 _ I6 (step x H6 y5)) fun ok s7 ⟨H7, I7, q7⟩ => ?_
      cases ok with
      | false =>
        rw [if_neg Bool.false_ne_true] at q7 ⊢
        obtain ⟨m', hm, w7⟩ := q7
        exact again I7 hm w7
      | true =>
        rw [if_pos rfl] at q7 ⊢
        refine thn (helt cl C s2 H2 fp _ s7 _ H7 _ I7 q7) fun y s8 ⟨vy, H8, I8, r8, ys, hD8, hz, m', hm, w8⟩ => ?_
        refine thn (mt_append (X := cxComp X N' scope cl C s2 H2 fp) _ s8 _ H8 (.ref s2.heap.objs.size) [vy] (.ref s2.heap.objs.size) [y] (fun _ H9 => H9 = upd H8 s2.heap.objs.size (.lst (ys ++ [vy]))) I8 rfl (.cons r8 .nil) ⟨_, ys, vy, rfl, rfl, hD8, hz, rfl⟩)
          fun _ s9 ⟨v9, H9, I9, r9, q9⟩ => ?_
        subst q9
        exact again I9 hm w8
  exact codeAny_compStart_list (loop _ rfl) (T.self _ 0 _ _ _ st1 (loop _ rfl))
/-- [elt for t in iter if c], as an expression -/
theorem pe_comp {elt iter : Expr} {ifs : List Expr} {t : Str} {tp pos : Pos} {i0 : Nat} {tc : TT} {te : TE} {wi : TI} (O : CompOk X N' scope ix) (hc : X.calm = true) (hi0 : N'[i0]? = some t) (hx0 : ix[i0]? = some none) (htl : scope.names.lookup t = some .local)
    (hi : PI X (.Name t tp) iter wi) (hif : ∀ cl C s2 H2 fp, PIf (cxComp X N' scope cl C s2 H2 fp) ifs tc) (helt : ∀ cl C s2 H2 fp, PE (cxComp X N' scope cl C s2 H2 fp) elt te) (hs : ∀ x, foldedSetIterable iter X.env x = pure x := by intro _; rfl) :
    PE X (.ListComp elt [⟨.Name t tp, iter, ifs, 0⟩] scope pos) (tComp wi ix i0 tc te) := by
  intro pins s σ H Q I h
  obtain ⟨cl, hcl, cls, clh⟩ := closure_of (scope := scope) (env := X.env) fun x hx hk => I.ok.has x.1 (O.free x hx hk)
  rw [eval_ListComp]
  refine wpAny_comprehension_free (use := none) rfl hs hcl O.kind O.names (thn (hi pins s σ H _ I h) fun v s1 h1 => thn h1 fun itv s2 h2 => ?_)
  obtain ⟨it, fp, tn, J, H2, e, I2, T, st2, f2, hR⟩ := h2
  subst e
  obtain ⟨W, w0, hW⟩ := hR s2.heap.objs.size (I2.hok.fresh (Nat.le_refl _))
  refine comp_run (RR := fun acc C => compPost (model X.prog X.w) X.A X.xe none (EP X pins σ Q) acc C) O hc hi0 hx0 htl I2 T st2 f2 cls clh hif helt w0 hW fun C H' s' hC J' q => ?_
  obtain ⟨m, hn, _⟩ := J'.loc
  refine ⟨m, hn, fun h' hs' => ⟨.ref s2.heap.objs.size, H', comp_letgo I2 hC (comp_back I2 f2 J') J'.free hs', rfl, q⟩⟩
/-- y = [elt for t in iter if c] -/
theorem ps_setComp {elt iter : Expr} {ifs : List Expr} {t y : Str} {tp pos py spos : Pos} {i i0 : Nat} {tc : TT} {te : TE} {wi : TI} (O : CompOk X N' scope ix) (hc : X.calm = true) (hi0 : N'[i0]? = some t) (hx0 : ix[i0]? = some none) (htl : scope.names.lookup t = some .local)
    (hN : X.N.Nodup) (hy : X.N[i]? = some y) (hyl : X.env.scope.names.lookup y = some .local)
    (hi : PI X (.Name t tp) iter wi) (hif : ∀ cl C s2 H2 fp, PIf (cxComp X N' scope cl C s2 H2 fp) ifs tc) (helt : ∀ cl C s2 H2 fp, PE (cxComp X N' scope cl C s2 H2 fp) elt te)
    (hsw : swapsWith (.ListComp elt [⟨.Name t tp, iter, ifs, 0⟩] scope pos) (some (.Name y py)) spos.line X.env = pure true := by rfl) (hs : ∀ x, foldedSetIterable iter X.env x = pure x := by intro _; rfl) :
    PS X (.Assign [.Name y py] (.ListComp elt [⟨.Name t tp, iter, ifs, 0⟩] scope pos) spos) (fun D σ H => tComp wi ix i0 tc te σ H fun v H1 => D.nx (σ.set i (some v)) H1) := by
  intro pins s σ H D I h
  obtain ⟨cl, hcl, cls, clh⟩ := closure_of (scope := scope) (env := X.env) fun x hx hk => I.ok.has x.1 (O.free x hx hk)
  rw [exec_Assign_Name_used _ _ _ _ hsw]
  refine wpAny_bind (wpAny_standAt (wpAny_bind ?_))
  show wpAny _ X.A (do let _ ← comprehension (.ListComp elt [⟨.Name t tp, iter, ifs, 0⟩] scope pos) scope X.env _ (newList []) false (eval iter X.env) (some (assign (.Name y py) X.env))) _ _ s
  refine wpAny_bind (wpAny_mono (wpAny_comprehension_free (use := some (assign (.Name y py) X.env)) (Q := fun _ s' => SP X pins D .next s') rfl hs hcl O.kind O.names
    (thn (hi pins s σ H _ I h) fun v s1 h1 => thn h1 fun itv s2 h2 => ?_)) (fun _ s' hq => wpAny_pure (wpAny_pure hq)) fun _ _ e => e)
  obtain ⟨it, fp, tn, J, H2, e, I2, T, st2, f2, hR⟩ := h2
  subst e
  obtain ⟨W, w0, hW⟩ := hR s2.heap.objs.size (I2.hok.fresh (Nat.le_refl _))
  refine comp_run (RR := fun acc C => compPost (model X.prog X.w) X.A X.xe (some (assign (.Name y py) X.env)) (fun _ s' => SP X pins D .next s') acc C) O hc hi0 hx0 htl I2 T st2 f2 cls clh hif helt w0 hW fun C H' s' hC J' q => ?_
  show wpAny _ X.A (assign (.Name y py) X.env (.ref s2.heap.objs.size)) _ _ s'
  have I4 := comp_back I2 f2 J'
  obtain ⟨m, hn, _⟩ := J'.loc
  refine wpAny_assign_Name (store_ok2 (v := .ref s2.heap.objs.size) I4 hN hy (.inl hyl) rfl (fun s5 I5 hs5 => ?_) (.inr hyl))
  have hCL : X.env.locals ≠ C := Nat.ne_of_lt (Nat.lt_of_lt_of_le I2.lt hC)
  obtain ⟨a, ha, hac⟩ := hs5
  have haC : C ≠ a := by
    rcases hac with z | z
    · rw [z]; exact Ne.symm hCL
    · obtain ⟨v, q⟩ := I2.cell y a z
      exact Nat.ne_of_gt (Nat.lt_of_lt_of_le q.lt hC)
  exact ⟨m, hn.sameBut ha haC, fun h' hs' => ⟨_, H', comp_letgo I2 hC I5 J'.free hs', q⟩⟩
end
end L2

set_option Elab.async false
set_option linter.all false
set_option maxRecDepth 100000
namespace L2
open PySem PySem.Spec PyProof.Rows
/-! ### a value stands for a datum -/
mutual
inductive Rep (K : PySem.W.Frag) (H : Hp) : V → PyData → Prop
  | non : Rep K H .non .none
  | bl (b : Bool) : Rep K H (.bl b) (.bool b)
  | int (i : Int) : Rep K H (.int i) (.int i)
  | str (x : Str) : Rep K H (.str x) (.str x)
  | lst {a : Addr} {xs : List V} {ds : List PyData} : SqL K H a xs → Reps K H xs ds → Rep K H (.ref a) (.list ds)
  | tup {a : Addr} {xs : List V} {ds : List PyData} : SqT K H a xs → Reps K H xs ds → Rep K H (.ref a) (.tuple ds)
inductive Reps (K : PySem.W.Frag) (H : Hp) : List V → List PyData → Prop
  | nil : Reps K H [] []
  | cons {x : V} {xs : List V} {d : PyData} {ds : List PyData} : Rep K H x d → Reps K H xs ds → Reps K H (x :: xs) (d :: ds)
end
section
variable {X : Cx} {pins : List (Addr × Obj)} {σ : St} {H : Hp} {s : Shared}
mutual
theorem Inv.reads (I : Inv X pins σ H s) : ∀ {x : V} {d : PyData}, Rep X.K H x d → ∀ {u : Value}, RelV x u → ∃ as, Reads s.heap u d as
  | _, _, .non, _, r => by cases r; exact ⟨_, .none⟩
  | _, _, .bl b, _, r => by cases r; exact ⟨_, .bool b⟩
  | _, _, .int i, _, r => by obtain ⟨t, rfl⟩ := r; exact ⟨_, .int i t⟩
  | _, _, .str x, _, r => by obtain ⟨t, rfl⟩ := r; exact ⟨_, .str x t⟩
  | _, _, .lst h rs, _, r => by
    cases r
    obtain ⟨its, rv, ⟨o, n, e, hc, _, hd⟩, _⟩ := I.list h
    obtain ⟨as, ra⟩ := Inv.readsAll I rs rv
    exact ⟨_, .list e hc hd (by rw [List.toList_toArray]; exact ra)⟩
  | _, _, .tup h rs, _, r => by
    cases r
    obtain ⟨its, rv, ⟨o, e, hc, n, hd⟩, _⟩ := I.tuple h
    obtain ⟨as, ra⟩ := Inv.readsAll I rs rv
    exact ⟨_, .tuple e hc hd (by rw [List.toList_toArray]; exact ra)⟩
theorem Inv.readsAll (I : Inv X pins σ H s) : ∀ {xs : List V} {ds : List PyData}, Reps X.K H xs ds → ∀ {us : List Value}, Vals xs us → ∃ as, ReadsAll s.heap us ds as
  | _, _, .nil, _, r => by cases r; exact ⟨_, .nil⟩
  | _, _, .cons h t, _, r => by
    cases r with
    | cons r1 r2 =>
      obtain ⟨as, ra⟩ := Inv.reads I h r1
      obtain ⟨bs, rb⟩ := Inv.readsAll I t r2
      exact ⟨_, .cons ra rb⟩
end
end
mutual
theorem Rep.keep {K : PySem.W.Frag} {H H' : Hp} (k : ∀ b o, H b = some o → H' b = some o) : ∀ {x : V} {d : PyData}, Rep K H x d → Rep K H' x d
  | _, _, .non => .non
  | _, _, .bl b => .bl b
  | _, _, .int i => .int i
  | _, _, .str x => .str x
  | _, _, .lst h rs => .lst (Same.seq k h) (Reps.keep k rs)
  | _, _, .tup h rs => .tup (by
      rcases h with (h | ⟨o, h⟩) | h
      · exact .inl (.inl (k _ _ h))
      · exact .inl (.inr ⟨o, k _ _ h⟩)
      · exact .inr h) (Reps.keep k rs)
theorem Reps.keep {K : PySem.W.Frag} {H H' : Hp} (k : ∀ b o, H b = some o → H' b = some o) : ∀ {xs : List V} {ds : List PyData}, Reps K H xs ds → Reps K H' xs ds
  | _, _, .nil => .nil
  | _, _, .cons h t => .cons (Rep.keep k h) (Reps.keep k t)
end
section
variable {X : Cx}
/-- == and != of data -/
def rEqD (K : PySem.W.Frag) : R2 := fun x y H Q => ∃ d e, Rep K H x d ∧ Rep K H y e ∧ SeqAt.shaped d = true ∧ SeqAt.shaped e = true ∧ Q (.bl (PyData.eqv d e)) H
def rNeD (K : PySem.W.Frag) : R2 := fun x y H Q => ∃ d e, Rep K H x d ∧ Rep K H y e ∧ SeqAt.shaped d = true ∧ SeqAt.shaped e = true ∧ Q (.bl (!PyData.eqv d e)) H
theorem op_eqD (hu : X.A.units + 64 < cLine) : OpR X (compareOp .Eq) (rEqD X.K) := by
  intro pins s σ H x y v u Q I rx ry h
  obtain ⟨d, e, r1, r2, h1, h2, q⟩ := h
  obtain ⟨as, ra⟩ := I.reads r1 rx
  obtain ⟨bs, rb⟩ := I.reads r2 ry
  exact eq_dataH ra rb h1 h2 hu ⟨.bl _, H, I, rfl, q⟩
theorem op_neD (hu : X.A.units + 64 < cLine) : OpR X (compareOp .NotEq) (rNeD X.K) := by
  intro pins s σ H x y v u Q I rx ry h
  obtain ⟨d, e, r1, r2, h1, h2, q⟩ := h
  obtain ⟨as, ra⟩ := I.reads r1 rx
  obtain ⟨bs, rb⟩ := I.reads r2 ry
  exact ne_dataH ra rb h1 h2 hu ⟨.bl _, H, I, rfl, q⟩
/-! ### several kinds at once -/
def rAddA (K : PySem.W.Frag) : R2 := fun x y H Q => rI0 (fun i j => .int (i + j)) x y H Q ∨ rCatA K x y H Q ∨ rCat x y H Q ∨ (∃ i j, x = .str i ∧ y = .str j ∧ i.length + j.length ≤ sizeLine ∧ Q (.str (i ++ j)) H)
theorem op_addA : OpR X (binaryOp .Add) (rAddA X.K) := op_add.or (op_catA.or (op_cat.or op_add_str))
def rMulA (K : PySem.W.Frag) : R2 := fun x y H Q => rI CMul (fun i j => .int (i * j)) x y H Q ∨ rRepT K x y H Q ∨ rRep x y H Q
theorem op_mulA : OpR X (binaryOp .Mult) (rMulA X.K) := op_mul.or (op_repT.or op_rep)
def rLenA (K : PySem.W.Frag) : List V → Hp → VK → Prop := fun xs H Q => (∃ p ys, xs = [.ref p] ∧ (SqL K H p ys ∨ SqT K H p ys) ∧ Q (.int ys.length) H) ∨ (∃ z, xs = [.str z] ∧ z.length ≤ sizeLine ∧ Q (.int z.length) H)
theorem call_lenA : CallR X (.builtin "len") (rLenA X.K) := call_len_seq.or call_len_str
/-- what is walked: a list, or a tuple -/
theorem pi_or {tg iter : Expr} {wi wi' : TI} (h : PI X tg iter wi) (h' : PI X tg iter wi') : PI X tg iter (fun σ H R => wi σ H R ∨ wi' σ H R) := by
  intro pins s σ H R I q
  rcases q with q | q
  · exact h pins s σ H R I q
  · exact h' pins s σ H R I q
def iSeq (K : PySem.W.Frag) (tl : TE) : TI := fun σ H R => iList K tl σ H R ∨ iTup K tl σ H R
theorem pi_seq {tg l : Expr} {tl : TE} (hl : PE X l tl) : PI X tg l (iSeq X.K tl) := pi_or (pi_list hl) (pi_tup hl)
/-! ### a def by its promise -/
structure Cal (P : Program) (w : World) (K : PySem.W.Frag) (mg : Str → Option Value) (base : Heap) (CX : CXT) (k : Nat) (x : Str) (ps : List Str) (sp : Sp) : Prop where
  ex : ∃ f fd, FnOk P w K mg base CX k f fd ps sp ∧ mg x = some (.ref f) ∧ PySem.W.keepIn K (.ref f) = true ∧ Binds K fd ps []
/-- a def at the text's top -/
structure FunAt (K : PySem.W.Frag) (x : Str) (st : Stmt) (f : Addr) (fd : FuncData) : Prop where
  ns : PySem.W.nsIn K mainGlobals x = some (some (.ref f))
  F : Fun K x x st f fd
end
/-! ### comprehensions: what the text must say, decided -/
def compOkB (sc : Scope) (N N' : List Str) (scope : Scope) (ix : List (Option Nat)) : Bool :=
  (match scope.kind with | .function => true | _ => false) && scope.names.all (fun y => y.2 != .cell) && scope.names.all (fun y => y.2 != .local || scope.names.lookup y.1 == some .local) &&
  scope.names.all (fun y => y.2 != .free || (sc.names.lookup y.1 == some .cell || sc.names.lookup y.1 == some .free)) && decide N'.Nodup && (ix.length == N'.length) &&
  (List.range ix.length).all fun i => match ix[i]?, N'[i]? with
    | some (some j), some x => N[j]? == some x && scope.names.lookup x != some .local
    | _, _ => true
theorem compOk_of {X : Cx} {N' : List Str} {scope : Scope} {ix : List (Option Nat)} (h : compOkB X.env.scope X.N N' scope ix = true) : CompOk X N' scope ix := by
  unfold compOkB at h
  simp only [Bool.and_eq_true] at h
  obtain ⟨⟨⟨⟨⟨⟨h1, h2⟩, h3⟩, h4⟩, h5⟩, h6⟩, h7⟩ := h
  refine ⟨?_, fun y hy => ?_, fun y hy hl => ?_, fun y hy hf => ?_, of_decide_eq_true h5, beq_iff_eq.mp h6, fun i j x e1 e2 => ?_⟩
  · cases e : scope.kind <;> rw [e] at h1 <;> first | rfl | cases h1
  · have := List.all_eq_true.mp h2 y hy
    simpa using this
  · have := List.all_eq_true.mp h3 y hy
    rw [hl] at this
    simpa using this
  · have := List.all_eq_true.mp h4 y hy
    rw [hf] at this
    have q : X.env.scope.names.lookup y.1 = some .cell ∨ X.env.scope.names.lookup y.1 = some .free := by simpa using this
    exact q
  · have hi : i < ix.length := (List.getElem?_eq_some_iff.mp e1).1
    have := List.all_eq_true.mp h7 i (List.mem_range.mpr hi)
    rw [e1, e2] at this
    simp only [Bool.and_eq_true] at this
    exact ⟨by simpa using this.1, by simpa using this.2⟩
/-- over a range whose element makes nothing and changes nothing but the list -/
theorem bb_list : bootBuiltins "list" = some (.type "list") := by decide +kernel
theorem bb_tuple : bootBuiltins "tuple" = some (.type "tuple") := by decide +kernel
theorem bb_len : bootBuiltins "len" = some (.builtin "len") := by decide +kernel
end L2

set_option Elab.async false
set_option linter.all false
set_option maxRecDepth 100000
namespace L2
open PySem PySem.Spec PyProof.Rows
/-! ### an exception on its way: its record, and that it has no dict of its own -/
def TrD (h base : Heap) (e : Addr) (cls fl : Value) : Prop :=
  ∃ oe vs T oT ts, h.get? e = some oe ∧ (oe.cls = cls ∧ oe.dict = none) ∧ oe.data = .fields vs ∧ vs[1]? = some (.ref T) ∧ base.get? T = none ∧ T ≠ e ∧ h.get? T = some oT ∧ oT.data = .fields ts ∧ ts[3]? = some fl
def FlD (base : Heap) (l : List Env) (e : Addr) (cls fl : Value) (h : Heap) : Prop := base.StaysIn h ∧ base.get? e = none ∧ h.FunFrames base l ∧ TrD h base e cls fl
theorem dict_mapF (o : Obj) (f : Array Value → Array Value) : (o.mapFields f).dict = o.dict := by
  obtain ⟨c, d, dt, sl⟩ := o
  cases dt <;> rfl
section
variable {M : Model} {A : Around} {E : Value → Shared → Prop} {s : Shared}
/-- the entry that noteFrame adds -/
theorem entryD {base : Heap} {env : Env} {outer : List Env} {L e : Addr} {oe : Obj} {vs : Array Value} {head : Value} {had : Bool} {Q : Unit → Shared → Prop} (hfr : A.frames = some (env :: outer)) (hl : s.heap.FunFrames base (env :: outer)) (hf : env.frame = some L)
    (g1 : s.heap.get? e = some oe) (g2 : oe.dict = none) (g3 : base.StaysIn s.heap) (g4 : base.get? e = none) (g5 : oe.data = .fields vs) (g6 : 1 < vs.size)
    (h : ∀ h', FlD base (env :: outer) e oe.cls (rawInt L) h' → s.heap.UpToSlots h' → Q () { s with heap := h' }) :
    wpAny M A (do let a ← frameOf env; let pl ← entryPlaceOf L had; let b ← EntryCells.newEntry head a .none (rawInt L) .none pl; setField (.ref e) 1 b) Q E s := by
  have ne : ∀ b o, s.heap.get? b = some o → (∀ ws, o.data ≠ .fields ws) → b ≠ e := fun b o hb hn q => by
    rw [q, g1] at hb
    cases hb
    exact hn vs g5
  have nf : e ∉ (env :: outer).filterMap (·.frame) := fun m => by
    obtain ⟨_, o, ho, hn⟩ := hl.mem m
    exact ne e o ho hn rfl
  refine wpAny_bind (wpAny_frameOf_fun hfr hl hf fun h1 k1 => wpAny_bind (wpAny_entryPlaceOf fun pl isP => ?_))
  unfold EntryCells.newEntry newFields
  refine wpAny_bind (wpAny_newObj_type ?_ (isP.sizeOk5 _ _ _ _ _))
  generalize hN : ({ cls := .type "traceback", dict := none, data := .fields ([head, .ref L, .none, rawInt L, .none] ++ (if pl.isEmpty then List.replicate 6 Value.none else pl)).toArray } : Obj) = N
  have e1 : h1.get? e = some oe := (k1.2.1 e nf).trans g1
  have st : base.StaysIn h1 := fun b o q => (k1.2.1 b fun m => by rw [(hl.mem m).1] at q; cases q).trans (g3 b o q)
  have e2 := Heap.get?_push_of_some (h := h1) N e1
  have hT : h1.objs.size ≠ e := Nat.ne_of_gt (Heap.lt_size e1)
  have dd := Obj.data_mapFields g5 (·.setIfInBounds 1 (Value.ref h1.objs.size))
  refine wpAny_setField e2 g5 g6 (h _ ⟨fun b o q => ?_, g4, hl.of_keeps fun b o hb hn => ?_, _, _, h1.objs.size, N, _, Heap.get?_update_self _ e2 (Obj.isFreed_of_fields dd), ⟨Obj.cls_mapFields _ _, (dict_mapF _ _).trans g2⟩, dd, by simp [g6], st.fresh, hT, ?_, by rw [← hN], ?_⟩ fun b o hb hn => ?_)
  · rw [Heap.get?_update_other _ _ (fun z => by rw [← z, g4] at q; cases q)]
    exact Heap.get?_push_of_some _ (st b o q)
  · obtain ⟨sl, q⟩ := k1.2.2 b o hb
    exact ⟨{ o with slots := sl }, by rw [Heap.get?_update_other _ _ (Ne.symm (ne b o hb hn))]; exact Heap.get?_push_of_some _ q, rfl⟩
  · rw [Heap.get?_update_other _ _ (Ne.symm hT)]
    exact Heap.get?_push_size h1 (by rw [← hN]; rfl)
  · simp
  · obtain ⟨sl, q⟩ := k1.2.2 b o hb
    exact ⟨sl, by rw [Heap.get?_update_other _ _ (Ne.symm (ne b o hb hn))]; exact Heap.get?_push_of_some _ q⟩

/-- a new exception is noted in the frame where it was raised -/
theorem note_newD {base : Heap} {env : Env} {outer : List Env} {L e : Addr} {oe : Obj} {vs : Array Value} {Q : Unit → Shared → Prop} (hfr : A.frames = some (env :: outer)) (hl : s.heap.FunFrames base (env :: outer)) (hf : env.frame = some L)
    (g1 : s.heap.get? e = some oe) (g2 : oe.dict = none) (g3 : base.StaysIn s.heap) (g4 : base.get? e = none) (g5 : oe.data = .fields vs) (g6 : vs[1]? = some .none)
    (h : ∀ h', FlD base (env :: outer) e oe.cls (rawInt L) h' → s.heap.UpToSlots h' → Q () { s with heap := h' }) : wpAny M A (noteFrame (.ref e) env) Q E s := by
  unfold noteFrame
  simp only [hf]
  refine wpAny_bind (wpAny_field g1 g5 g6 ?_)
  rw [if_neg (by decide)]
  exact entryD hfr hl hf g1 g2 g3 g4 g5 (Array.getElem?_eq_some_iff.mp g6).1 h
/-- one that came from a callee -/
theorem note_onD {base : Heap} {env : Env} {outer : List Env} {L e : Addr} {cls : Value} {Q : Unit → Shared → Prop} (hfr : A.frames = some (env :: outer)) (hf : env.frame = some L) (fl : FlD base (env :: outer) e cls .none s.heap)
    (h : ∀ h', FlD base (env :: outer) e cls (rawInt L) h' → s.heap.UpToSlots h' → Q () { s with heap := h' }) : wpAny M A (noteFrame (.ref e) env) Q E s := by
  obtain ⟨f1, f2, f3, oe, vs, T, oT, ts, a1, ⟨rfl, a3⟩, a4, a5, a6, a7, a8, a9, a10⟩ := fl
  have o1 : ∀ b, b ≠ T → (s.heap.update T (Obj.mapFields (·.setIfInBounds 3 Value.none))).get? b = s.heap.get? b := fun b hb => Heap.get?_update_other _ _ (Ne.symm hb)
  have o2 : ∀ b o, s.heap.get? b = some o → (∀ ws, o.data ≠ .fields ws) → b ≠ T := fun b o hb hn q => by
    rw [q, a8] at hb
    cases hb
    exact hn ts a9
  unfold noteFrame
  simp only [hf]
  refine wpAny_bind (wpAny_field a1 a4 a5 ?_)
  rw [if_pos (by simp)]
  refine wpAny_bind (wpAny_field a8 a9 a10 ?_)
  rw [if_neg (by simp [rawInt])]
  refine wpAny_bind (wpAny_setField a8 a9 (Array.getElem?_eq_some_iff.mp a10).1 ?_)
  refine entryD hfr (f3.of_keeps fun b o hb hn => ⟨o, (o1 b (o2 b o hb hn)).trans hb, rfl⟩) hf ((o1 e (Ne.symm a7)).trans a1) a3 (fun b o q => (o1 b fun z => by rw [z, a6] at q; cases q).trans (f1 b o q)) f2 a4 (Array.getElem?_eq_some_iff.mp a5).1
    fun h' x1 x2 => h h' x1 fun b o hb hn => x2 b o ((o1 b (o2 b o hb hn)).trans hb) hn
/-- it is in flight no more -/
theorem landD {base : Heap} {l : List Env} {e : Addr} {cls f : Value} {Q : Unit → Shared → Prop} (fl : FlD base l e cls f s.heap)
    (h : ∀ h', FlD base l e cls .none h' → s.heap.UpToSlots h' → Q () { s with heap := h' }) : wpAny M A (setFlight (.ref e) none) Q E s := by
  obtain ⟨f1, f2, f3, oe, vs, T, oT, ts, a1, a2, a4, a5, a6, a7, a8, a9, a10⟩ := fl
  have z3 : 3 < ts.size := (Array.getElem?_eq_some_iff.mp a10).1
  have o1 : ∀ b, b ≠ T → (s.heap.update T (Obj.mapFields (·.setIfInBounds 3 ((none : Option Addr).elim Value.none fun f => rawInt f)))).get? b = s.heap.get? b := fun b hb => Heap.get?_update_other _ _ (Ne.symm hb)
  have o2 : ∀ b o, s.heap.get? b = some o → (∀ ws, o.data ≠ .fields ws) → b ≠ T := fun b o hb hn q => by
    rw [q, a8] at hb
    cases hb
    exact hn ts a9
  unfold setFlight
  refine wpAny_bind (wpAny_field a1 a4 a5 ?_)
  rw [if_pos (by simp)]
  refine wpAny_setField a8 a9 z3 (h _ ⟨fun b o q => (o1 b fun z => by rw [z, a6] at q; cases q).trans (f1 b o q), f2, f3.of_keeps fun b o hb hn => ⟨o, (o1 b (o2 b o hb hn)).trans hb, rfl⟩, oe, vs, T, _, _, (o1 e (Ne.symm a7)).trans a1, a2, a4, a5, a6, a7,
    Heap.get?_update_self _ a8 (Obj.isFreed_of_fields (Obj.data_mapFields a9 _)), Obj.data_mapFields a9 _, by simp [z3]⟩ fun b o hb hn => ⟨o.slots, (o1 b (o2 b o hb hn)).trans hb⟩)
theorem FlD.drop {base h : Heap} {env : Env} {outer : List Env} {e : Addr} {cls f : Value} (fl : FlD base (env :: outer) e cls f h) : FlD base outer e cls f h := by
  obtain ⟨k1, k2, ⟨_, _, k3⟩, k4⟩ := fl
  exact ⟨k1, k2, k3, k4⟩
theorem FlD.there {base h : Heap} {l : List Env} {e : Addr} {cls f : Value} (fl : FlD base l e cls f h) : ∃ ob, h.get? e = some ob ∧ ob.cls = cls ∧ ob.dict = none ∧ ∃ vs, ob.data = .fields vs := by
  obtain ⟨_, _, _, oe, vs, _, _, _, a1, a2, a3, _⟩ := fl
  exact ⟨oe, a1, a2.1, a2.2, vs, a3⟩
/-- out of a frame -/
theorem leave_newD {base : Heap} {env : Env} {outer : List Env} {L e : Addr} {oe : Obj} {vs : Array Value} {Q : Unit → Shared → Prop} (hfr : A.frames = some (env :: outer)) (hl : s.heap.FunFrames base (env :: outer)) (hf : env.frame = some L)
    (g1 : s.heap.get? e = some oe) (g2 : oe.dict = none) (g3 : base.StaysIn s.heap) (g4 : base.get? e = none) (g5 : oe.data = .fields vs) (g6 : vs[1]? = some .none)
    (h : ∀ h', FlD base outer e oe.cls .none h' → s.heap.UpToSlots h' → Q () { s with heap := h' }) : wpAny M A (leaving env (.ref e)) Q E s := by
  unfold leaving
  exact wpAny_bind (note_newD hfr hl hf g1 g2 g3 g4 g5 g6 fun h1 x1 y1 => landD x1 fun h2 x2 y2 => h h2 x2.drop (y1.trans y2))
theorem leave_onD {base : Heap} {env : Env} {outer : List Env} {L e : Addr} {cls : Value} {Q : Unit → Shared → Prop} (hfr : A.frames = some (env :: outer)) (hf : env.frame = some L) (fl : FlD base (env :: outer) e cls .none s.heap)
    (h : ∀ h', FlD base outer e cls .none h' → s.heap.UpToSlots h' → Q () { s with heap := h' }) : wpAny M A (leaving env (.ref e)) Q E s := by
  unfold leaving
  exact wpAny_bind (note_onD hfr hf fl fun h1 x1 y1 => landD x1 fun h2 x2 y2 => h h2 x2.drop (y1.trans y2))
end

theorem ObjOk.ex {P : Program} {w : World} {H : Hp} {h : Heap} {a : Addr} {o : HO} (x : ObjOk P w H h a o) : ∃ ob, h.get? a = some ob := by
  cases o with
  | lst xs => obtain ⟨_, _, _, _, e⟩ := x; exact ⟨_, e⟩
  | tup xs => obtain ⟨_, _, _, ob, e, _⟩ := x; exact ⟨_, e⟩
  | dK kvs => obtain ⟨_, _, _, _, o, _, _, e, _⟩ := x; exact ⟨_, e⟩
  | dT kvs => obtain ⟨_, _, _, _, o, _, _, e, _⟩ := x; exact ⟨_, e⟩
  | set S n => obtain ⟨o, _, _, _, e, _⟩ := x; exact ⟨_, e⟩
  | ins C dx fs => obtain ⟨_, _, _, e, _⟩ := x; exact ⟨_, e⟩
  | own y => exact x
  | xd fs => obtain ⟨_, ⟨_, _, _, e, _⟩, _⟩ := x; exact ⟨_, e⟩
  | rng lo hi => obtain ⟨_, _, _, e⟩ := x; exact ⟨_, e⟩
  | frz ob u => obtain ⟨e, _⟩ := x; exact ⟨_, e⟩
  | tbl ps => exact ⟨_, (show h.get? a = some _ from x)⟩
  | met f y => exact ⟨_, (show h.get? a = some _ from x)⟩
  | ext φ => obtain ⟨_, e, _⟩ := x; exact e
/-- an exception of class cls lies at ae, below it the frames l; what is tracked, and what was there in g (but frames), is in B and stays -/
def FlyAt (l : List Env) (H' : Hp) (g : Heap) (ae : Addr) (cls : Value) (h : Heap) : Prop :=
  ∃ B, FlD B l ae cls .none h ∧ (∀ b, H' b ≠ none → ∃ o, B.get? b = some o) ∧ ∀ b o, g.get? b = some o → b ∉ frs l → ∃ o', B.get? b = some o'
/-- how an exception lies behind a call -/
def CXE (P : Program) (w : World) : CXT := fun outer H s E e s' =>
  ∃ ae cls H', e = .ref ae ∧ s'.os = s.os ∧ AllBare s'.gens ∧ Un (frs outer) [] H H' s.heap s'.heap ∧ HOk P w H' s'.heap ∧ FlyAt outer H' s.heap ae cls s'.heap ∧ E cls none H'
theorem exE {P : Program} {w : World} {H : Hp} {s : Shared} {e : Value} {s' : Shared} {l : List Env} (h : CXE P w l H s (fun _ _ _ => False) e s') : False := by
  obtain ⟨_, _, _, _, _, _, _, _, _, z⟩ := h
  exact z
section
variable {X : Cx} {pins : List (Addr × Obj)} {σ : St} {H H2 : Hp} {s s1 : Shared} {B h' : Heap} {ae : Addr} {cls f : Value}
/-- the heap behind what notes an exception: all that the body knows is as it was -/
theorem up_un (I : Inv X pins σ H2 s1) (hex : X.ex = []) (b1 : B.StaysIn s1.heap) (b1' : B.StaysIn h') (b2 : ∀ b, H2 b ≠ none → ∃ o, B.get? b = some o) (b3 : ∀ b o, X.s₀.heap.get? b = some o → b ∉ X.fs → ∃ o', B.get? b = some o') (up : s1.heap.UpToSlots h') :
    Un X.fs [] X.H₀ H2 X.s₀.heap h' ∧ HOk X.prog X.w H2 h' := by
  have nx : ∀ b : Addr, b ∉ X.ex := fun b z => by rw [hex] at z; exact nomatch z
  have slot : ∀ b o, X.s₀.heap.get? b = some o → X.H₀ b = none → b ∈ X.fs → ∃ sl, h'.get? b = some { o with slots := sl } := fun b o e n hb => by
    obtain ⟨sl, e1⟩ := I.base.slot b o e n hb (nx b)
    obtain ⟨_, o', ho', hd⟩ := I.ok.funs.mem hb
    rw [e] at ho'
    cases ho'
    obtain ⟨sl', e2⟩ := up b _ e1 hd
    exact ⟨sl', e2⟩
  refine ⟨⟨fun b o e n hb _ => ?_, fun b o e n hb _ => slot b o e n hb, fun b o e n _ => I.base.free b o e n (nx b), fun b o e _ => ?_, I.base.tups, I.base.frzs, I.base.tbls⟩, fun a ho e => (I.hok a ho e).stay (fun b u hb q => ?_) (fun _ q => q) fun _ _ q => q⟩
  · obtain ⟨o', e'⟩ := b3 b o e hb
    have := b1 b o' e'
    rw [I.base.keep b o e n hb (nx b)] at this
    cases this
    exact b1' b o e'
  · by_cases hb : b ∈ X.fs
    · obtain ⟨sl, q⟩ := slot b o e (I.ok.frf b hb) hb
      exact ⟨_, q⟩
    · obtain ⟨o', e'⟩ := b3 b o e hb
      exact ⟨o', b1' b o' e'⟩
  · have hb : H2 b ≠ none := by
      rcases hb with rfl | hb
      · rw [e]; exact fun z => nomatch z
      · rw [hb]; exact fun z => nomatch z
    obtain ⟨o', e'⟩ := b2 b hb
    have := b1 b o' e'
    rw [q] at this
    cases this
    exact b1' b u e'
end
section
variable {P : Program} {w : World} {K : PySem.W.Frag} {mg : Str → Option Value} {base : Heap} {N : List Str} {qual : Str} {scope : Scope} {f : Addr} {cd : Value} {A : Around} {outer : List Env} {s : Shared} {H : Hp} {E : XK}
/-- a def's body whose exceptions lie as CXE says -/
abbrev cxE (P : Program) (w : World) (K : PySem.W.Frag) (mg : Str → Option Value) (base : Heap) (N : List Str) (qual : Str) (scope : Scope) (f : Addr) (cd : Value) (A : Around) (outer : List Env) (s : Shared) (H : Hp) (E : XK) : Cx :=
  cxOf (CXE P w) P w K mg base N qual scope f cd A outer s H E
/-- what raises: a new exception is what the body wishes of one -/
def Thrown (X : Cx) (E : XK) : Prop := ∀ (pins : List (Addr × Obj)) (σ : St) (H : Hp) (s : Shared) (h' : Heap) (ae : Addr) (cls : Value) (args : List Value), Inv X pins σ H s → Heap.MadeExcOf s.heap h' ae cls args → E cls none H → X.xe (.ref ae) { s with heap := h' }
theorem thrown_cx : Thrown (cxE P w K mg base N qual scope f cd A outer s H E) E := by
  intro pins σ H1 s1 h' ae cls args I hx hE
  obtain ⟨t, g1, _, _⟩ := hx.there
  have hin : ∀ env ∈ (cxE P w K mg base N qual scope f cd A outer s H E).stack, ∀ a, env.frame = some a → a ∈ frs (cxE P w K mg base N qual scope f cd A outer s H E).stack := fun env he a ha => List.mem_filterMap.mpr ⟨env, he, ha⟩
  have hl := PySem.W.funFrames_hide I.stack hin
  have st : (PySem.W.hideAll s1.heap (frs (cxE P w K mg base N qual scope f cd A outer s H E).stack)).StaysIn s1.heap := fun b o q => PySem.W.of_hideAll _ q
  have inB : ∀ b o, s1.heap.get? b = some o → b ∉ frs (cxE P w K mg base N qual scope f cd A outer s H E).stack → (PySem.W.hideAll s1.heap (frs (cxE P w K mg base N qual scope f cd A outer s H E).stack)).get? b = some o := fun b o e n => PySem.W.hideAll_get _ e n
  have b2 : ∀ b, H1 b ≠ none → ∃ o, (PySem.W.hideAll s1.heap (frs (cxE P w K mg base N qual scope f cd A outer s H E).stack)).get? b = some o := fun b hb => by
    cases e : H1 b with
    | none => exact absurd e hb
    | some ho =>
      obtain ⟨o, ho'⟩ := (I.hok b ho e).ex
      exact ⟨o, inB b o ho' fun z => by rw [I.stkFree b z] at e; cases e⟩
  have b3 : ∀ b o, s.heap.get? b = some o → b ∉ frs outer → ∃ o', (PySem.W.hideAll s1.heap (frs (cxE P w K mg base N qual scope f cd A outer s H E).stack)).get? b = some o' := fun b o e n => by
    obtain ⟨o', e'⟩ := I.base.there b o e (fun z => nomatch z)
    refine ⟨o', inB b o' e' fun z => ?_⟩
    rcases List.mem_cons.mp (I.stkSub b z) with q | q
    · exact absurd (Nat.lt_of_lt_of_le (Heap.lt_size e) (by rw [q]; exact I.ok.above)) (Nat.lt_irrefl _)
    · exact n q
  refine leave_newD (base := PySem.W.hideAll s1.heap (frs (cxE P w K mg base N qual scope f cd A outer s H E).stack)) I.ok.frames (hl.of_keeps fun b o hb _ => ⟨o, hx.keeps b o hb, rfl⟩) rfl g1 rfl (fun b o q => hx.keeps b o (st b o q)) ?_ rfl rfl fun h2 fl up => ?_
  · cases q : (PySem.W.hideAll s1.heap (frs (cxE P w K mg base N qual scope f cd A outer s H E).stack)).get? ae with
    | none => rfl
    | some o => have := st ae o q; rw [hx.new] at this; cases this
  · obtain ⟨u1, u2⟩ := up_un I rfl st fl.1 b2 b3 ((Heap.UpToSlots.of_keeps hx.keeps).trans up)
    exact ⟨ae, cls, H1, rfl, I.os, I.bare, u1, u2, ⟨_, fl, b2, b3⟩, hE⟩
/-- what passes through a body on its way up; Es: what is wanted of it, by the names' values -/
def PassesX (CX : CXT) (X : Cx) (Es : St → XK) : Prop := ∀ (pins : List (Addr × Obj)) (σ : St) (H : Hp) (s : Shared) (e : Value) (s' : Shared), Inv X pins σ H s → CX X.stack H s (Es σ) e s' → X.xe e s'
theorem passes_cx : PassesX (CXE P w) (cxE P w K mg base N qual scope f cd A outer s H E) (fun _ => E) := by
  intro pins σ H1 s1 e s' I h
  obtain ⟨ae, cls, H2, rfl, os, bare, un, hok, ⟨B, fl, b2, b3⟩, hE⟩ := h
  have I2 : Inv (cxE P w K mg base N qual scope f cd A outer s H E) pins σ H2 s' := I.call' (ch := []) os un hok bare fun b z => nomatch z
  have b3' : ∀ b o, s.heap.get? b = some o → b ∉ frs outer → ∃ o', B.get? b = some o' := fun b o e n => by
    obtain ⟨o', e'⟩ := I.base.there b o e (fun z => nomatch z)
    refine b3 b o' e' fun z => ?_
    rcases List.mem_cons.mp (I.stkSub b z) with q | q
    · exact absurd (Nat.lt_of_lt_of_le (Heap.lt_size e) (by rw [q]; exact I.ok.above)) (Nat.lt_irrefl _)
    · exact n q
  refine leave_onD I.ok.frames rfl fl fun h2 fl2 up => ?_
  obtain ⟨u1, u2⟩ := up_un I2 rfl fl.1 fl2.1 b2 b3' up
  exact ⟨ae, cls, H2, rfl, I2.os, I2.bare, u1, u2, ⟨B, fl2, b2, b3'⟩, hE⟩
end
section
variable {X : Cx}
/-- f(..), its exceptions as Es wants them -/
def tCallX (sp : Sp) (dvs : List V) (Es : St → XK) (t : TA) : TE := fun σ H Q => t σ H fun vs H1 => sp (vs ++ dvs) H1 Q (Es σ)
theorem run_fnX {CX : CXT} {k : Nat} {f : Addr} {fd : FuncData} {ps : List Str} {sp : Sp} {dvs : List V} {ds : List Value} {Es : St → XK} {pins : List (Addr × Obj)} {σ : St} {H : Hp} {s : Shared} {Q : VK} {us : List Value} {vs : List V}
    (F : FnOk X.prog X.w X.K X.mg X.base CX k f fd ps sp) (hr : Room k X.A) (hb : Binds X.K fd ps ds) (hd : Vals dvs ds) (hx : PassesX CX X Es) (I : Inv X pins σ H s) (r : Vals vs us) (h : sp (vs ++ dvs) H Q (Es σ)) :
    wpAny (model X.prog X.w) X.A (call (.ref f) us) (EP X pins σ Q) X.xe s := by
  have r2 : Vals (vs ++ dvs) (us ++ ds) := r.append hd
  have hl : (us ++ ds).length = ps.length := by rw [← r2.length]; exact F.len _ _ _ _ h
  refine wpAny_call (codeAny_mono (F.run X.A X.stack s H ⟨us, []⟩ (us ++ ds) (vs ++ dvs) Q (Es σ) hr I.env0 (hb s us I.kIn hl) r2 h) fun r s' hq => ?_)
  cases r with
  | error e => exact hx pins σ H s e s' I hq
  | ok fl =>
    cases fl with
    | ret u => exact I.after hq
    | next => exact False.elim hq
    | brk => exact False.elim hq
    | cont => exact False.elim hq
/-- a def at the text's top, its promise, the defaults of its last parameters -/
structure CalD (P : Program) (w : World) (K : PySem.W.Frag) (mg : Str → Option Value) (base : Heap) (CX : CXT) (k : Nat) (x : Str) (ps : List Str) (dvs : List V) (sp : Sp) : Prop where
  ex : ∃ f fd ds, FnOk P w K mg base CX k f fd ps sp ∧ mg x = some (.ref f) ∧ PySem.W.keepIn K (.ref f) = true ∧ Binds K fd ps ds ∧ Vals dvs ds
theorem pe_calX {CX : CXT} {k : Nat} {x : Str} {ps : List Str} {dvs : List V} {sp : Sp} {Es : St → XK} {e : Expr} {es : List Expr} {t : TA} {p pos : Pos} (c : CalD X.prog X.w X.K X.mg X.base CX k x ps dvs sp) (hr : Room k X.A) (hg : Gl X x) (hx : PassesX CX X Es)
    (ha : PA X (e :: es) t) (hdb : (x == ("__debug__" : Str)) = false := by decide) (he : starEach (e :: es) X.env = (false, eval e X.env) :: starEach es X.env := by rfl) (hpl : (backTo pos (starEach es X.env)).any (·.1) = false := by rfl) :
    PE X (.Call (.Name x p) (e :: es) [] pos) (tCallX sp dvs Es t) := by
  obtain ⟨f, fd, ds, F, hm, hk, hb, hd⟩ := c.ex
  intro pins s σ H Q I h
  refine wpAny_Call_Name_kw (ld_glob I hg hm ?_ hdb)
  refine PySem.W.callWith_K (h₀ := X.base) I.ok.mod.kin hk (thn (ha pos pins s σ H _ I h) fun us s1 ⟨vs, H1, I1, r, q⟩ => ⟨I1.kIn, ?_⟩) he hpl
  exact run_fnX F hr hb hd hx I1 r q
end
section
variable {P : Program} {w : World} {K : PySem.W.Frag} {mg : Str → Option Value} {base : Heap}
/-- THE RULE for a def whose exceptions are told -/
theorem Fun.okE {x qual : Str} {st : Stmt} {f : Addr} {fd : FuncData} {N ps : List Str} {k : Nat} {sp : Sp} (F : Fun K x qual st f fd) (S : FnScope N ps (defScope st)) (len : ∀ vs H Q E, sp vs H Q E → vs.length = ps.length)
    (hbody : ∀ (cdv : Value) (A : Around) (outer : List Env) (s : Shared) (H : Hp) (vs : List V) (Q : VK) (E : XK), Room k (A.deeper (envOfC qual (defScope st) s.heap.objs.size f cdv)) → sp vs H Q E →
      ∃ t, PSs (cxE P w K mg base N qual (defScope st) f cdv A outer s H E) (defBody st) t ∧ t { nx := fun _ H' => Q .non H', rt := Q } (start N vs) H) : FnOk P w K mg base (CXE P w) (k + 1) f fd ps sp := by
  obtain ⟨oc, od, kV, doc, pm, an, cdv, ct, osl, rfl, lk, hcd⟩ := F.ex
  exact fn_of lk hcd S len fun A outer s H vs Q E hr hsp => hbody cdv A outer s H vs Q E hr hsp
/-- a def that raises nothing is one of these, too -/
theorem FnOk.toE {k : Nat} {f : Addr} {fd : FuncData} {ps : List Str} {sp : Sp} (F : FnOk P w K mg base CX0 k f fd ps sp) : FnOk P w K mg base (CXE P w) k f fd ps sp :=
  ⟨F.len, fun A outer s H args us vs Q E hr he hb hv hs => codeAny_mono (F.run A outer s H args us vs Q E hr he hb hv hs) fun r s' hq => by
    cases r with
    | error e => exact False.elim hq
    | ok fl =>
      cases fl with
      | ret u => exact hq
      | next => exact hq
      | brk => exact hq
      | cont => exact hq⟩
end
end L2

set_option Elab.async false
set_option linter.all false
set_option maxRecDepth 100000
namespace L2
open PySem PySem.Spec PyProof.Rows
/-! ### raise C(..), C an own class under ValueError -/
abbrev bmVE : List Value := [.type "ValueError", .type "Exception", .type "BaseException", .type "object"]
/-- a namespace's object that has no __init__ -/
def nsKB (o : Obj) : Bool := match o.data with
  | .dict es _ => (es.toList.all fun e => match e.key with | .str _ _ => true | _ => false) && (nsFind es "__init__").isNone
  | _ => false
theorem nsKB_ns {o : Obj} (h : nsKB o = true) {g : Heap} {a : Addr} (e : g.get? a = some o) : ∃ m, g.Ns a m ∧ m "__init__" = none := by
  unfold nsKB at h
  split at h
  · rename_i es ep hd
    rw [Bool.and_eq_true] at h
    refine ⟨fun x => nsFind es x, ⟨o, es, ep, e, hd, fun en hen => ?_, fun _ => rfl⟩, by simpa using h.2⟩
    have := List.all_eq_true.mp h.1 en (by simpa using hen)
    split at this
    · rename_i n t hk
      exact ⟨n, t, hk⟩
    · cases this
  · cases h
inductive TailK (K : PySem.W.Frag) : List Value → Prop
  | base : TailK K bmVE
  | own {A : Addr} {c0 : Value} {dd : Option Addr} {cd : ClassData} {sl : Array (Option Value)} {oN : Obj} {tl : List Value} : K.lookup A = some ⟨c0, dd, .cls cd, sl⟩ → K.lookup cd.ns = some oN → nsKB oN = true → TailK K tl → TailK K (.ref A :: tl)
theorem TailK.tail {K : PySem.W.Frag} {h : Heap} (X : K.In h) {tl : List Value} (t : TailK K tl) : OwnTail h bmVE tl := by
  induction t with
  | base => exact .base
  | own h1 h2 h3 _ ih =>
    obtain ⟨m, hm, hi⟩ := nsKB_ns h3 (X _ _ h2)
    exact .own (X _ _ h1) hm hi ih
structure ExcK (K : PySem.W.Frag) (C : Addr) : Prop where
  ex : ∃ nm q N bs tl hdct sn sub ab col dd k0 k1 k2 k3 k5 oN, K.lookup C = some (excClassObj nm q C N bs tl hdct sn sub ab col dd k0 k1 k2 k3 k5 "ValueError.__new__") ∧ K.lookup N = some oN ∧ nsKB oN = true ∧ TailK K tl
section
variable {X : Cx}
theorem ps_raise {x : Str} {C : Addr} {e : Expr} {es : List Expr} {t : TA} {E : XK} {np cpos pos : Pos} (hc : X.calm = true) (ht : Thrown X E) (hg : Gl X x) (hm : X.mg x = some (.ref C)) (ec : ExcK X.K C) (ha : PA X (e :: es) t)
    (hdb : (x == ("__debug__" : Str)) = false := by decide) (he : starEach (e :: es) X.env = (false, eval e X.env) :: starEach es X.env := by rfl) (hpl : (backTo cpos (starEach es X.env)).any (·.1) = false := by rfl) :
    PS X (.Raise (some (.Call (.Name x np) (e :: es) [] cpos)) none pos) (fun D σ H => t σ H fun vs H1 => vs.length ≤ sizeLine ∧ E (.ref C) none H1) := by
  intro pins s σ H D I h
  obtain ⟨nm, q, N, bs, tl, hdct, sn, sub, ab, col, dd, k0, k1, k2, k3, k5, oN, h1, h2, h3, T⟩ := ec.ex
  obtain ⟨mN, hN, hni⟩ := nsKB_ns h3 (I.kIn _ _ h2)
  have kk : ∀ {s' : Shared} {σ' : St} {H' : Hp}, Inv X pins σ' H' s' → s'.heap.Ns N mN := fun {s' σ' H'} I' => by
    obtain ⟨o, es', ep, ho, r⟩ := hN
    have e1 := I.kIn _ _ h2
    rw [e1] at ho
    cases ho
    exact ⟨_, es', ep, I'.kIn _ _ h2, r⟩
  refine wpAny_Raise_call_subT (C := C) (nm := nm) (q := q) (N := N) (bs := bs) (bm := tl) (hdct := hdct) (sn := sn) (sub := sub) (ab := ab) (col := col) (dd := dd) (k0 := k0) (k1 := k1) (k2 := k2) (k3 := k3) (k5 := k5)
    F.excBase_ValueError (mN := mN) ((T.tail I.kIn).hasType F.excBase_ValueError.hasBase) (I.ok.hd hc) (by rw [he]; show (false || (backTo cpos (starEach es X.env)).any (·.1)) = false; rw [hpl]; rfl) hni (ld_glob I hg hm ⟨rfl, ?_⟩ hdb)
  have hA := ha cpos pins s σ H _ I h
  rw [he] at hA ⊢
  exact Calls.evalArgs_plain (thn hA fun us s1 ⟨vs, H1, I1, r, hl, hE⟩ => ⟨rfl, by show us.length ≤ sizeLine; rw [← r.length]; exact hl, I1.kIn _ _ h1, kk I1, T.tail I1.kIn, fun h' ae hx => ht pins σ H1 s1 h' ae _ _ I1 hx hE⟩)
end
/-! ### try .. except C (as n) -/
abbrev Cx.inTry (X : Cx) (EH : Value → Shared → Prop) (pins : List (Addr × Obj)) : Cx := { X with xe := EH, pn := X.pn ++ pins }
abbrev Cx.inH (X : Cx) (ae : Addr) : Cx := { X with A := X.A.mark (some (.ref ae)), calm := false, xe := fun _ _ => False }
/-- what is known of a caught exception -/
def excφ (ae : Addr) (cls : Value) (h : Heap) : Prop := ∃ ob, h.get? ae = some ob ∧ ob.cls = cls ∧ ob.dict = none ∧ ∃ vs, ob.data = .fields vs
abbrev xHO (ae : Addr) (cls : Value) : HO := .ext (excφ ae cls)
section
variable {X : Cx} {pins : List (Addr × Obj)} {σ : St} {H H2 : Hp} {s s1 : Shared} {B h' : Heap} {ae : Addr} {cls f : Value}
end
/-- an exception stands in a handler -/
def hEnds (k : Nat) (D : Ends) : Ends := { nx := fun σ H => D.nx (σ.set k none) H, rt := D.rt, bk := fun σ H => D.bk (σ.set k none) H, ct := fun σ H => D.ct (σ.set k none) H }
def tTryAs (K : PySem.W.Frag) (C : Addr) (k : Nat) (tb : (St → XK) → TS) (ts : TS) : TS := fun D σ H =>
  tb (fun σ' cls _ H' => PySem.W.exmOne K cls (.ref C) = some true ∧ ∀ ae, H' ae = none → ts (hEnds k D) (σ'.set k (some (.ref ae))) (upd H' ae (xHO ae cls))) D σ H
section
variable {X : Cx}
end
end L2

set_option Elab.async false
set_option linter.all false
set_option maxRecDepth 100000
namespace L2
open PySem PySem.Spec PyProof.Rows
/-! ### the text's own defs as the top leaves them, and the law's own head -/
def TopFn (K : PySem.W.Frag) (x : Str) (st : Stmt) : Prop := ∃ f fd, PySem.W.nsIn K mainGlobals x = some (some (.ref f)) ∧ Fun K x x st f fd
theorem topFn_mk {K : PySem.W.Frag} {x : Str} {st : Stmt} {f : Addr} {oc : Value} {od an : Option Addr} {osl : Array (Option Value)} {kV doc pm cdv ct : Value} (a : PySem.W.nsIn K mainGlobals x = some (some (.ref f)))
    (l : K.lookup f = some ⟨oc, od, .func (PySem.W.fnOf x x (defArgs st) (defBody st) (defScope st) .none kV doc pm an cdv ct), osl⟩) (c : PySem.W.codeIn K cdv x = true) (k : PySem.W.keepIn K (.ref f) = true) : TopFn K x st :=
  ⟨f, _, a, fun_mk l c k⟩
section
variable {P : Program} {w : World} {K : PySem.W.Frag} {mg : Str → Option Value} {base h : Heap} {x : Str} {st : Stmt}
/-- a law's promise: a list of at most 63 ints is handed in, True comes out -/
def spLaw (K : PySem.W.Frag) : Sp := fun vs H Q _ => ∃ (a : Addr) (ns : List Int), vs = [.ref a] ∧ SqL K H a (ns.map V.int) ∧ ns.length ≤ 63 ∧ ∀ H', Q (.bl true) H'
theorem TopFn.law {k : Nat} {CX : CXT} {fa : Addr} (t : TopFn K "law" st) (KX : K.In h) (G : h.Ns mainGlobals mg) (hfa : mg "law" = some (.ref fa))
    (hb : ∀ (kV doc pm : Value) (an : Option Addr) (cdv ct : Value) (u : Value), bindArgs (PySem.W.fnOf "law" "law" (defArgs st) (defBody st) (defScope st) .none kV doc pm an cdv ct) ⟨[u], []⟩ = pure [(("_law_script" : Str), u)])
    (ok : ∀ base : Heap, K.In base → base.Ns mainGlobals mg → ∀ f fd, Fun K "law" "law" st f fd → FnOk P w K mg base CX k f fd ["_law_script"] (spLaw K)) :
    ∃ fd : FuncData, (∀ (s : Shared) (v : Value), BindsTo s fd ⟨[v], []⟩ [("_law_script", v)]) ∧ ∀ base : Heap, K.In base → base.Ns mainGlobals mg → FnOk P w K mg base CX k fa fd ["_law_script"] (spLaw K) := by
  obtain ⟨f, fd, ns, F⟩ := t
  have e := hfa.symm.trans (PySem.W.mg_of KX G ns)
  cases e
  refine ⟨fd, fun s v => ?_, fun base kb nb => ok base kb nb _ fd F⟩
  obtain ⟨oc, od, kV, doc, pm, an, cdv, ct, osl, rfl, lk, hcd⟩ := F.ex
  exact .of_eq (hb kV doc pm an cdv ct v)
end
theorem walk63 {l : PySem.W.OpenLaw} {q : Program} {loose : List Str} {XP : (Str → Option Value) → Heap → Prop} {YP : World → Heap → Prop} {d : DefRec} {K : Params → PySem.W.Frag} {CX : World → CXT} {k : Nat} (hk : Room k callerA) (hn : l.most = some 63) (hdf : d.params.defaults = [])
    (hY : ∀ (w : World) (h : Heap), YP w h → (K w.params).In h)
    (F : ∀ (w : World) (mg : Str → Option Value) (fa : Addr) (h : Heap), (K w.params).In h → h.Ns mainGlobals mg → mg d.name = some (.ref fa) →
      ∃ fd : FuncData, (∀ (s : Shared) (u : Value), BindsTo s fd ⟨[u], []⟩ [("_law_script", u)]) ∧ ∀ base : Heap, (K w.params).In base → base.Ns mainGlobals mg → FnOk l.prog w (K w.params) mg base (CX w) k fa fd ["_law_script"] (spLaw (K w.params)))
    (hCX : ∀ (w : World) (H : Hp) (s : Shared) (e : Value) (s' : Shared), CX w [] H s (fun _ _ _ => False) e s' → False) :
    PySem.W.WalkO q loose XP YP l.row.toRowW d [] (fun f vs => PySem.call f vs) :=
  L2.walk_of (n := 63) (k := k) (x := "_law_script") (CX := CX) (sp := fun w => spLaw (K w.params)) hn (by decide) hdf hk hY F (fun _ _ a ns hl _ hS => ⟨a, ns, rfl, hS, hl, fun _ => rfl⟩) hCX
end L2

set_option Elab.async false
set_option linter.all false
set_option maxRecDepth 100000
namespace L2
open PySem PySem.Spec PyProof.Rows
/-! ### small words -/
theorem same_new {H : Hp} {p : Addr} {o : HO} (hp : H p = none) : Same H (upd H p o) := fun b u e => by
  rw [upd_ne (ne_of_none e hp)]
  exact e
theorem at_nat {xs : List V} {j : Nat} {v : V} (h : xs[j]? = some v) {i : Int} (e : i = j) : atI xs i = some v := by
  subst e
  exact atI_nat h
theorem ixN_nat {n i : Nat} (h : i < n) : ixN n (i : Int) = some i := by
  unfold ixN
  rw [if_pos (by omega), if_pos (by omega)]
  simp
theorem cut_drop {xs : List V} {i : Nat} (h : i ≤ xs.length) : cutV xs (some (i : Int)) none = xs.drop i := by
  unfold cutV
  rw [HT.sIx_none, HT.sIx_nat, Nat.min_eq_left h, List.take_of_length_le (by simp)]
/-! ### a datum's shape -/
def Shp (n : Nat) (d : PyData) : Prop := d.canLay0 = true ∧ d.depth ≤ n
theorem Shp.non {n : Nat} : Shp n .none := ⟨rfl, Nat.zero_le _⟩
theorem Shp.bl {n : Nat} (b : Bool) : Shp n (.bool b) := ⟨rfl, Nat.zero_le _⟩
theorem Shp.int {n : Nat} (i : Int) : Shp n (.int i) := ⟨rfl, Nat.zero_le _⟩
theorem Shp.str {n : Nat} {x : Str} (h : PyData.strOk x = true) : Shp n (.str x) := ⟨h, Nat.zero_le _⟩
theorem canAll : ∀ {ds : List PyData}, (∀ d ∈ ds, d.canLay0 = true) → PyData.canLayAll0 ds = true
  | [], _ => rfl
  | d :: ds, h => by
    rw [PyData.canLayAll0, h d List.mem_cons_self, canAll fun e he => h e (List.mem_cons_of_mem _ he)]
    rfl
theorem depAll {n : Nat} : ∀ {ds : List PyData}, (∀ d ∈ ds, d.depth ≤ n) → PyData.depthAll ds ≤ n
  | [], _ => Nat.zero_le _
  | d :: ds, h => by
    rw [PyData.depthAll]
    exact Nat.max_le.mpr ⟨h d List.mem_cons_self, depAll fun e he => h e (List.mem_cons_of_mem _ he)⟩
theorem Shp.lst {n : Nat} {ds : List PyData} (h : ∀ d ∈ ds, Shp n d) : Shp (n + 1) (.list ds) := ⟨by
  rw [PyData.canLay0]
  exact canAll fun d hd => (h d hd).1, by
  rw [PyData.depth]
  exact Nat.succ_le_succ (depAll fun d hd => (h d hd).2)⟩
theorem Shp.tup {n : Nat} {ds : List PyData} (h : ∀ d ∈ ds, Shp n d) : Shp (n + 1) (.tuple ds) := ⟨by
  rw [PyData.canLay0]
  exact canAll fun d hd => (h d hd).1, by
  rw [PyData.depth]
  exact Nat.succ_le_succ (depAll fun d hd => (h d hd).2)⟩
theorem all0 {n : Nat} : ∀ d ∈ ([] : List PyData), Shp n d := fun _ h => nomatch h
theorem all1 {n : Nat} {d : PyData} {ds : List PyData} (h : Shp n d) (r : ∀ e ∈ ds, Shp n e) : ∀ e ∈ d :: ds, Shp n e := fun e he => (List.mem_cons.mp he).elim (fun z => z ▸ h) (r e)
theorem Shp.mono {n m : Nat} {d : PyData} (h : Shp n d) (e : n ≤ m) : Shp m d := ⟨h.1, Nat.le_trans h.2 e⟩
theorem Shp.shaped {n : Nat} {d : PyData} (h : Shp n d) (hn : n ≤ 64) : SeqAt.shaped d = true := by
  unfold SeqAt.shaped
  rw [h.1, decide_eq_true (Nat.le_trans h.2 hn)]
  rfl
theorem Shp.eqv {n : Nat} {d : PyData} (h : Shp n d) : PyData.eqv d d = true := SeqAt.eqv_refl d h.1
/-! ### arguments without a star -/
@[reducible] def plainE : Expr → Bool
  | .Starred _ _ => false
  | _ => true
theorem star_plain {e : Expr} {es : List Expr} {env : Env} (h : plainE e = true) : starEach (e :: es) env = (false, eval e env) :: starEach es env := by
  cases e <;> first | rfl | cases h
theorem star_any {pos : Pos} {env : Env} : ∀ {es : List Expr}, es.all plainE = true → (backTo pos (starEach es env)).any (·.1) = false
  | [], _ => rfl
  | e :: es, h => by
    rw [List.all_cons, Bool.and_eq_true] at h
    rw [star_plain h.1]
    have := star_any (pos := pos) (env := env) h.2
    unfold backTo at this ⊢
    rw [List.map_cons, List.any_cons, this]
    rfl
section
variable {X : Cx}
theorem pa_c {e : Expr} {es : List Expr} {te : TE} {t : TA} (ha : PE X e te) (hr : PA X es t) (h : plainE e = true := by rfl) : PA X (e :: es) (tCons te t) := pa_cons ha hr (star_plain h)
/-- f(..) of an own def; of a builtin; of a type -/
theorem pe_cf {CX : CXT} {k : Nat} {x : Str} {ps : List Str} {dvs : List V} {sp : Sp} {Es : St → XK} {e : Expr} {es : List Expr} {t : TA} {p pos : Pos} (c : CalD X.prog X.w X.K X.mg X.base CX k x ps dvs sp) (hr : Room k X.A) (hg : Gl X x) (hx : PassesX CX X Es)
    (ha : PA X (e :: es) t) (h : (e :: es).all plainE = true := by rfl) (hdb : (x == ("__debug__" : Str)) = false := by decide) : PE X (.Call (.Name x p) (e :: es) [] pos) (tCallX sp dvs Es t) := by
  have h' : plainE e = true ∧ es.all plainE = true := by rwa [List.all_cons, Bool.and_eq_true] at h
  exact pe_calX c hr hg hx ha hdb (star_plain h'.1) (star_any h'.2)
theorem pe_cb {id : String} {r : List V → Hp → VK → Prop} {x : Str} {e : Expr} {es : List Expr} {t : TA} {p pos : Pos} (hc : CallR X (.builtin id) r) (hg : Gl X x) (hm : X.mg x = none) (hv : bootBuiltins x = some (.builtin id)) (ha : PA X (e :: es) t)
    (h : (e :: es).all plainE = true := by rfl) (hn : x ≠ "__name__" := by decide) (hdb : (x == ("__debug__" : Str)) = false := by decide) : PE X (.Call (.Name x p) (e :: es) [] pos) (tCB r t) := by
  have h' : plainE e = true ∧ es.all plainE = true := by rwa [List.all_cons, Bool.and_eq_true] at h
  exact pe_callB hc hg hm hv ha hn hdb (star_plain h'.1) (star_any h'.2)
theorem pe_ct {T : String} {r : List V → Hp → VK → Prop} {x : Str} {e : Expr} {es : List Expr} {t : TA} {p pos : Pos} (hc : CallR X (.type T) r) (hg : Gl X x) (hm : X.mg x = none) (hv : bootBuiltins x = some (.type T)) (ha : PA X (e :: es) t)
    (h : (e :: es).all plainE = true := by rfl) (hn : x ≠ "__name__" := by decide) (hdb : (x == ("__debug__" : Str)) = false := by decide) : PE X (.Call (.Name x p) (e :: es) [] pos) (tCB r t) := by
  have h' : plainE e = true ∧ es.all plainE = true := by rwa [List.all_cons, Bool.and_eq_true] at h
  exact pe_callTy hc hg hm hv ha hn hdb (star_plain h'.1) (star_any h'.2)
/-! ### several kinds at once -/
def rInA (K : PySem.W.Frag) : R2 := fun x y H Q => rIn K false x y H Q ∨ (∃ i j, x = .str i ∧ y = .str j ∧ Q (.bl (!(Builtin.Str.occurrences j i 0 j.length 1).isEmpty)) H)
theorem op_inA : OpR X (compareOp .In) (rInA X.K) := op_in_seq.or op_in_str
def rEqA (K : PySem.W.Frag) : R2 := fun x y H Q => rEq x y H Q ∨ rEqD K x y H Q
theorem op_eqA (hu : X.A.units + 64 < cLine) : OpR X (compareOp .Eq) (rEqA X.K) := op_eq.or (op_eqD hu)
def rNeA (K : PySem.W.Frag) : R2 := fun x y H Q => rNe x y H Q ∨ rNeD K x y H Q
theorem op_neA (hu : X.A.units + 64 < cLine) : OpR X (compareOp .NotEq) (rNeA X.K) := op_ne.or (op_neD hu)
theorem rEqA.same {K : PySem.W.Frag} {x y : V} {H : Hp} {Q : VK} {n : Nat} {d : PyData} (h : Shp n d) (hn : n ≤ 64) (r1 : Rep K H x d) (r2 : Rep K H y d) (q : Q (.bl true) H) : rEqA K x y H Q :=
  .inr ⟨d, d, r1, r2, h.shaped hn, h.shaped hn, by rw [h.eqv]; exact q⟩
theorem rNeA.same {K : PySem.W.Frag} {x y : V} {H : Hp} {Q : VK} {n : Nat} {d : PyData} (h : Shp n d) (hn : n ≤ 64) (r1 : Rep K H x d) (r2 : Rep K H y d) (q : Q (.bl false) H) : rNeA K x y H Q :=
  .inr ⟨d, d, r1, r2, h.shaped hn, h.shaped hn, by rw [h.eqv]; exact q⟩
/-- a class, a function, a tuple of the module; a type of Python's -/
theorem pe_gref {x : Str} {a : Addr} {pos : Pos} (hg : Gl X x) (hm : X.mg x = some (.ref a)) (hd : (x == ("__debug__" : Str)) = false := by decide) : PE X (.Name x pos) (tC (.ref a)) := pe_glob hg hm rfl hd
/-- nothing is raised -/
theorem passes_none {P : Program} {w : World} : PassesX (CXE P w) X (fun _ => E0) := fun _ _ _ _ _ _ _ h => (exE h).elim
end
/-! ### defs with defaults -/
structure FunD (K : PySem.W.Frag) (x qual : Str) (st : Stmt) (f : Addr) (fd : FuncData) (dV : Value) : Prop where
  ex : ∃ (oc : Value) (od : Option Addr) (kV doc pm : Value) (an : Option Addr) (cdv ct : Value) (osl : Array (Option Value)),
    fd = PySem.W.fnOf x qual (defArgs st) (defBody st) (defScope st) dV kV doc pm an cdv ct ∧ K.lookup f = some ⟨oc, od, .func fd, osl⟩ ∧ PySem.W.codeIn K cdv qual = true
  kp : PySem.W.keepIn K (.ref f) = true
def TopFnD (K : PySem.W.Frag) (x : Str) (st : Stmt) (dV : Value) : Prop := ∃ f fd, PySem.W.nsIn K mainGlobals x = some (some (.ref f)) ∧ FunD K x x st f fd dV
section
variable {P : Program} {w : World} {K : PySem.W.Frag} {mg : Str → Option Value} {base h : Heap}
theorem FunD.okE {x qual : Str} {st : Stmt} {f : Addr} {fd : FuncData} {dV : Value} {N ps : List Str} {k : Nat} {sp : Sp} (F : FunD K x qual st f fd dV) (S : FnScope N ps (defScope st)) (len : ∀ vs H Q E, sp vs H Q E → vs.length = ps.length)
    (hbody : ∀ (cdv : Value) (A : Around) (outer : List Env) (s : Shared) (H : Hp) (vs : List V) (Q : VK) (E : XK), Room k (A.deeper (envOfC qual (defScope st) s.heap.objs.size f cdv)) → sp vs H Q E →
      ∃ t, PSs (cxE P w K mg base N qual (defScope st) f cdv A outer s H E) (defBody st) t ∧ t { nx := fun _ H' => Q .non H', rt := Q } (start N vs) H) : FnOk P w K mg base (CXE P w) (k + 1) f fd ps sp := by
  obtain ⟨oc, od, kV, doc, pm, an, cdv, ct, osl, rfl, lk, hcd⟩ := F.ex
  exact fn_of lk hcd S len fun A outer s H vs Q E hr hsp => hbody cdv A outer s H vs Q E hr hsp
theorem TopFn.calD {CX : CXT} {k : Nat} {x : Str} {st : Stmt} {ps : List Str} {sp : Sp} (t : TopFn K x st) (KX : K.In h) (G : h.Ns mainGlobals mg) (ok : ∀ f fd, Fun K x x st f fd → FnOk P w K mg base CX k f fd ps sp)
    (hb : ∀ (kV doc pm : Value) (an : Option Addr) (cdv ct : Value) (us : List Value), us.length = ps.length → bindArgs (PySem.W.fnOf x x (defArgs st) (defBody st) (defScope st) .none kV doc pm an cdv ct) ⟨us, []⟩ = pure (ps.zip us)) : CalD P w K mg base CX k x ps [] sp := by
  obtain ⟨f, fd, ns, F⟩ := t
  exact ⟨f, fd, [], ok f fd F, PySem.W.mg_of KX G ns, F.kp, F.binds hb, .nil⟩
/-- all arguments written; or the last ones left out (ds) -/
theorem TopFnD.calD {CX : CXT} {k : Nat} {x : Str} {st : Stmt} {dV : Value} {ps : List Str} {sp : Sp} {dvs : List V} {ds : List Value} (t : TopFnD K x st dV) (KX : K.In h) (G : h.Ns mainGlobals mg) (ok : ∀ f fd, FunD K x x st f fd dV → FnOk P w K mg base CX k f fd ps sp)
    (hb : ∀ (s : Shared) (kV doc pm : Value) (an : Option Addr) (cdv ct : Value) (us : List Value), K.In s.heap → (us ++ ds).length = ps.length → BindsTo s (PySem.W.fnOf x x (defArgs st) (defBody st) (defScope st) dV kV doc pm an cdv ct) ⟨us, []⟩ (ps.zip (us ++ ds)))
    (hv : Vals dvs ds) : CalD P w K mg base CX k x ps dvs sp := by
  obtain ⟨f, fd, ns, F⟩ := t
  refine ⟨f, fd, ds, ok f fd F, PySem.W.mg_of KX G ns, F.kp, ?_, hv⟩
  obtain ⟨oc, od, kV, doc, pm, an, cdv, ct, osl, rfl, lk, hcd⟩ := F.ex
  exact fun s us KI hl => hb s kV doc pm an cdv ct us KI hl
end
/-! ### isinstance(e, C), e a caught exception of an own class -/
structure ExcT (K : PySem.W.Frag) (D : Addr) : Prop where
  ga : PySem.W.findIn K (.ref D) "__getattribute__" = some (some (.builtin "BaseException.__getattribute__"))
  gn : PySem.W.findIn K (.ref D) "__getattr__" = some none
  cls : PySem.W.isClsIn K D = true
  ca : PySem.W.findIn K (.ref D) "__class__" = some (some (.builtin "object.__class__"))
  hn : PySem.W.specialIn K (.builtin "object.__class__") "__get__" = some (some (.builtin "getset_descriptor.__get__"))
  tk : PySem.W.takesIn K (.builtin "object.__class__") = some true
  mo : PySem.W.mroIn K D (.type "object") = some true
  mb : PySem.W.mroIn K D (.type "BaseException") = some true
section
variable {prog : Program} {w : World} {A : Around} {E : Value → Shared → Prop} {s : Shared} {K : PySem.W.Frag} {x D : Addr} {ox : Obj}
open PySem.W
end
/-- the class of a value, or of a caught exception -/
inductive TyX (K : PySem.W.Frag) (H : Hp) : V → Value → Prop
  | of {x : V} {t : Value} : TyOf K H x t → TyX K H x t
  | exc {a D : Addr} : H a = some (xHO a (.ref D)) → ExcT K D → TyX K H (.ref a) (.ref D)
inductive ClsV : V → Value → Prop
  | ref (C : Addr) : ClsV (.ref C) (.ref C)
  | ty (T : String) : ClsV (.ty T) (.type T)
def rIsiC (K : PySem.W.Frag) : List V → Hp → VK → Prop := fun xs H Q => ∃ x c t cv b, xs = [x, c] ∧ TyX K H x t ∧ ClsV c cv ∧ PySem.W.kitOne K t cv = some b ∧ Q (.bl b) H
section
variable {X : Cx}
/-- isinstance(e, T), T int, bool, str, list, tuple, dict -/
theorem pe_isT {e : Expr} {te : TE} {T : Str} {Tn : String} {p p2 pos : Pos} (hg : Gl X "isinstance") (hm : X.mg "isinstance" = none) (he : PE X e te) (hgT : Gl X T) (hmT : X.mg T = none) (hv : bootBuiltins T = some (.type Tn))
    (h1 : plainE e = true := by rfl) (hn : T ≠ "__name__" := by decide) (hdb : (T == ("__debug__" : Str)) = false := by decide) :
    PE X (.Call (.Name "isinstance" p) [e, .Name T p2] [] pos) (tCB (rIsi X.K) (tCons te (tCons (tC (.ty Tn)) tNil))) :=
  pe_cb call_isi hg hm boot_isinstance (pa_c he (pa_c (pe_bltn hgT hmT hv rfl hn hdb) pa_nil rfl) h1) (by rw [List.all_cons, h1]; rfl)
theorem ps_raiseP {x : Str} {C : Addr} {e : Expr} {es : List Expr} {t : TA} {E : XK} {np cpos pos : Pos} (hc : X.calm = true) (ht : Thrown X E) (hg : Gl X x) (hm : X.mg x = some (.ref C)) (ec : ExcK X.K C) (ha : PA X (e :: es) t)
    (h : (e :: es).all plainE = true := by rfl) (hdb : (x == ("__debug__" : Str)) = false := by decide) :
    PS X (.Raise (some (.Call (.Name x np) (e :: es) [] cpos)) none pos) (fun D σ H => t σ H fun vs H1 => vs.length ≤ sizeLine ∧ E (.ref C) none H1) := by
  have h' : plainE e = true ∧ es.all plainE = true := by rwa [List.all_cons, Bool.and_eq_true] at h
  exact ps_raise hc ht hg hm ec ha hdb (star_plain h'.1) (star_any h'.2)
end
end L2

set_option Elab.async false
set_option linter.all false
set_option maxRecDepth 100000
namespace L2
open PySem PySem.Spec PyProof.Rows
/-! ### the judgements, closed: nothing looks into them while a text is put together -/
structure QE (X : Cx) (e : Expr) (t : TE) : Prop where
  h : PE X e t
structure QT (X : Cx) (e : Expr) (t : TT) : Prop where
  h : PT X e t
structure QW (X : Cx) (e : Expr) (t : TT) : Prop where
  h : PW X e t
structure QA (X : Cx) (es : List Expr) (t : TA) : Prop where
  h : PA X es t
structure QS (X : Cx) (st : Stmt) (t : TS) : Prop where
  h : PS X st t
structure QB (X : Cx) (st : List Stmt) (t : TS) : Prop where
  h : PSs X st t
structure QG (X : Cx) (tg : Expr) (t : TG) : Prop where
  h : PG X tg t
structure QI (X : Cx) (tg iter : Expr) (t : TI) : Prop where
  h : PI X tg iter t
theorem body_of {X : Cx} {body : List Stmt} {t : TS} {D : Ends} {σ : St} {H : Hp} (h1 : QB X body t) (h2 : t D σ H) : ∃ t, PSs X body t ∧ t D σ H := ⟨t, h1.h, h2⟩
def noComp : Expr → Bool
  | .ListComp .. => false
  | .SetComp .. => false
  | .DictComp .. => false
  | _ => true
theorem swaps_no {e : Expr} {tg : Option Expr} {n : Nat} {env : Env} (h : noComp e = true) : swapsWith e tg n env = pure false := by
  cases e <;> first | rfl | cases h
section
variable {X : Cx} {K : PySem.W.Frag}
theorem kmul (h : X.K = K) : OpR X (binaryOp .Mult) (rMulA K) := h ▸ op_mulA
theorem keq (h : X.K = K) (hu : X.A.units + 64 < cLine) : OpR X (compareOp .Eq) (rEqA K) := h ▸ op_eqA hu
theorem kne (h : X.K = K) (hu : X.A.units + 64 < cLine) : OpR X (compareOp .NotEq) (rNeA K) := h ▸ op_neA hu
theorem kin (h : X.K = K) : OpR X (compareOp .In) (rInA K) := h ▸ op_inA
def rNotInA (K : PySem.W.Frag) : R2 := fun x y H Q => rIn K true x y H Q ∨ (∃ i j, x = .str i ∧ y = .str j ∧ Q (.bl (!(!(Builtin.Str.occurrences j i 0 j.length 1).isEmpty))) H)
theorem kix (h : X.K = K) : IxR X (rIx K) := h ▸ ix_seq
theorem klen (h : X.K = K) : CallR X (.builtin "len") (rLenA K) := h ▸ call_lenA
def rListOf (K : PySem.W.Frag) : List V → Hp → VK → Prop := fun xs H Q => ∃ p ys, xs = [.ref p] ∧ (SqL K H p ys ∨ SqT K H p ys) ∧ ∀ l, H l = none → Q (.ref l) (upd H l (.lst ys))
def rTupOf (K : PySem.W.Frag) : List V → Hp → VK → Prop := fun xs H Q => ∃ p ys, xs = [.ref p] ∧ ((SqL K H p ys ∧ ∀ l, H l = none → Q (.ref l) (upd H l (.tup ys))) ∨ (SqT K H p ys ∧ Q (.ref p) H))
end
/-- the names' values, written out -/
theorem st_norm {T : St → Hp → Prop} {σ σ' : St} {H : Hp} (e : σ = σ') (h : T σ' H) : T σ H := e ▸ h
/-! ### the rules, each with its side conditions in one last premise s -/
section
variable {X : Cx} {a b c e : Expr} {es rest : List Expr} {ta tb tc te : TE} {t : TA} {pos : Pos} {tA tB' : TT} {st : Stmt} {sts bd : List Stmt} {tx ty : TS}
theorem q_int {i j} : QE X (.Constant (.int i) j pos) (tC (.int i)) := ⟨pe_int⟩
theorem q_bl {v j} : QE X (.Constant (.bool v) j pos) (tC (.bl v)) := ⟨pe_bl⟩
theorem q_non {j} : QE X (.Constant .none j pos) (tC .non) := ⟨pe_non⟩
theorem q_str {x j} : QE X (.Constant (.str x) j pos) (tC (.str x)) := ⟨pe_str⟩
theorem q_var {i : Nat} {x : Str} (s : X.N[i]? = some x ∧ Vis X.env.scope x ∧ (x == ("__debug__" : Str)) = false ∧ (x == ("__classdict__" : Str)) = false) : QE X (.Name x pos) (tVar i) := ⟨pe_var s.1 s.2.1 s.2.2.1 s.2.2.2⟩
theorem q_gref {x : Str} {c : Addr} (s : X.mg x = some (.ref c) ∧ Gl X x ∧ (x == ("__debug__" : Str)) = false) : QE X (.Name x pos) (tC (.ref c)) := ⟨pe_gref s.2.1 s.1 s.2.2⟩
theorem q_nil : QA X [] tNil := ⟨pa_nil⟩
theorem q_cons (ha : QE X e te) (hr : QA X es t) (s : plainE e = true) : QA X (e :: es) (tCons te t) := ⟨pa_c ha.h hr.h s⟩
theorem q_call {CX : CXT} {k : Nat} {x : Str} {ps : List Str} {dvs : List V} {sp : Sp} {Es : St → XK} {p : Pos} (ha : QA X (e :: es) t)
    (s : CalD X.prog X.w X.K X.mg X.base CX k x ps dvs sp ∧ Room k X.A ∧ Gl X x ∧ PassesX CX X Es ∧ (e :: es).all plainE = true ∧ (x == ("__debug__" : Str)) = false) : QE X (.Call (.Name x p) (e :: es) [] pos) (tCallX sp dvs Es t) :=
  ⟨pe_cf s.1 s.2.1 s.2.2.1 s.2.2.2.1 ha.h s.2.2.2.2.1 s.2.2.2.2.2⟩
theorem q_cb {id : String} {r : List V → Hp → VK → Prop} {x : Str} {p : Pos} (ha : QA X (e :: es) t)
    (s : CallR X (.builtin id) r ∧ X.mg x = none ∧ bootBuiltins x = some (.builtin id) ∧ Gl X x ∧ (e :: es).all plainE = true ∧ x ≠ "__name__" ∧ (x == ("__debug__" : Str)) = false) : QE X (.Call (.Name x p) (e :: es) [] pos) (tCB r t) :=
  ⟨pe_cb s.1 s.2.2.2.1 s.2.1 s.2.2.1 ha.h s.2.2.2.2.1 s.2.2.2.2.2.1 s.2.2.2.2.2.2⟩
theorem q_ct {T : String} {r : List V → Hp → VK → Prop} {x : Str} {p : Pos} (ha : QA X (e :: es) t)
    (s : CallR X (.type T) r ∧ X.mg x = none ∧ bootBuiltins x = some (.type T) ∧ Gl X x ∧ (e :: es).all plainE = true ∧ x ≠ "__name__" ∧ (x == ("__debug__" : Str)) = false) : QE X (.Call (.Name x p) (e :: es) [] pos) (tCB r t) :=
  ⟨pe_ct s.1 s.2.2.2.1 s.2.1 s.2.2.1 ha.h s.2.2.2.2.1 s.2.2.2.2.2.1 s.2.2.2.2.2.2⟩
theorem q_isT {T : Str} {Tn : String} {p p2 : Pos} {K : PySem.W.Frag} (he : QE X e te) (s : X.K = K ∧ X.mg "isinstance" = none ∧ X.mg T = none ∧ bootBuiltins T = some (.type Tn) ∧ Gl X "isinstance" ∧ Gl X T ∧ plainE e = true ∧ T ≠ "__name__" ∧ (T == ("__debug__" : Str)) = false) :
    QE X (.Call (.Name "isinstance" p) [e, .Name T p2] [] pos) (tCB (rIsi K) (tCons te (tCons (tC (.ty Tn)) tNil))) := by
  obtain ⟨rfl, s⟩ := s
  exact ⟨pe_isT s.2.2.2.1 s.1 he.h s.2.2.2.2.1 s.2.1 s.2.2.1 s.2.2.2.2.2.1 s.2.2.2.2.2.2.1 s.2.2.2.2.2.2.2⟩
theorem q_op {op : Operator} {r : R2} (ha : QE X a ta) (hb : QE X b tb) (s : OpR X (binaryOp op) r) : QE X (.BinOp a op b pos) (tOp r ta tb) := ⟨pe_op s ha.h hb.h⟩
theorem q_cmp {op : CmpOp} {r : R2} (ha : QE X a ta) (hb : QE X b tb) (s : OpR X (compareOp op) r ∧ behindInMarks op b = false) : QE X (.Compare a [op] [b] pos) (tOp r ta tb) := ⟨pe_cmpR s.1 ha.h hb.h s.2⟩
theorem q_ix {r : R2} (ha : QE X a ta) (hb : QE X b tb) (s : IxR X r ∧ PlainIx b) : QE X (.Subscript a b pos) (tOp r ta tb) := ⟨pe_ix s.1 ha.h hb.h s.2⟩
theorem q_one {op} (h : QE X a ta) : QE X (.BoolOp op [a] pos) ta := ⟨pe_one h.h⟩
theorem q_and (ha : QE X a ta) (hb : QE X (.BoolOp .And (b :: rest) pos) tb) : QE X (.BoolOp .And (a :: b :: rest) pos) (tAndV ta tb) := ⟨pe_and ha.h hb.h⟩
/-! tests -/
theorem q_tcmp {op : CmpOp} {r : R2} (ha : QE X a ta) (hb : QE X b tb) (s : OpR X (compareOp op) r ∧ behindInMarks op b = false) : QT X (.Compare a [op] [b] pos) (tTest (tOp r ta tb)) := ⟨pt_cmpR s.1 ha.h hb.h s.2⟩
theorem q_tv (h : QE X e te) (s : ∀ whole, isTrue e X.env whole = (do let v ← whole; standAt e.pos; holding [v] (truthy v))) : QT X e (tB te) := ⟨pt_val h.h s⟩
theorem q_bool (h : QW X e tA) : QT X e tA := ⟨h.h.pt⟩
theorem q_tnot (ha : QT X a tA) : QT X (.UnaryOp .Not a pos) (tNot tA) := ⟨pt_not ha.h⟩
theorem q_wand1 (ha : QT X a tA) : QW X (.BoolOp .And [a] pos) tA := ⟨pw_and1 ha.h⟩
theorem q_wor1 (ha : QT X a tA) : QW X (.BoolOp .Or [a] pos) tA := ⟨pw_or1 ha.h⟩
theorem q_wand (ha : QT X a tA) (hb : QW X (.BoolOp .And (b :: rest) pos) tB') : QW X (.BoolOp .And (a :: b :: rest) pos) (tAnd tA tB') := ⟨pw_and ha.h hb.h⟩
theorem q_wor (ha : QT X a tA) (hb : QW X (.BoolOp .Or (b :: rest) pos) tB') : QW X (.BoolOp .Or (a :: b :: rest) pos) (tOr tA tB') := ⟨pw_or ha.h hb.h⟩
/-! statements -/
theorem q_end : QB X [] tNext := ⟨pss_nil⟩
theorem q_then (h1 : QS X st tx) (h2 : QB X sts ty) : QB X (st :: sts) (tSeq tx ty) := ⟨pss_cons h1.h h2.h⟩
theorem q_last (h1 : QS X st tx) : QB X [st] tx := ⟨pss_one h1.h⟩
theorem q_ret (he : QE X e te) : QS X (.Return (some e) pos) (tRet te) := ⟨ps_ret he.h⟩
theorem q_if (hc : QT X c tA) (ha : QB X sts tx) (hb : QB X bd ty) : QS X (.If c sts bd pos) (tIfS tA tx ty) := ⟨ps_if hc.h ha.h hb.h⟩
theorem q_expr (he : QE X e te) (s : noComp e = true) : QS X (.Expr e pos) (tDrop te) := ⟨ps_expr he.h (swaps_no s)⟩
theorem q_set {i : Nat} {x : Str} {pos' : Pos} (he : QE X e te) (s : X.N.Nodup ∧ X.N[i]? = some x ∧ Loc X.env.scope x ∧ noComp e = true ∧ (X.fn x = true ∨ X.env.scope.names.lookup x = some .local)) :
    QS X (.Assign [.Name x pos'] e pos) (tAsg te (gName i)) := ⟨ps_set s.1 s.2.1 s.2.2.1 he.h (swaps_no s.2.2.2.1) s.2.2.2.2⟩
theorem q_name {i : Nat} {x : Str} (s : X.N.Nodup ∧ X.N[i]? = some x ∧ Loc X.env.scope x ∧ (X.fn x = true ∨ X.env.scope.names.lookup x = some .local)) : QG X (.Name x pos) (gName i) := ⟨pg_name s.1 s.2.1 s.2.2.1 s.2.2.2⟩
theorem q_for {tg iter : Expr} {wi : TI} {g : TG} (hi : QI X tg iter wi) (hg : QG X tg g) (hb : QB X sts tx)
    (s : PassesOwn (model X.prog X.w) X.A X.env X.xe ∧ X.calm = true ∧ ∀ x, foldedSetIterable iter X.env x = pure x) : QS X (.For tg iter sts [] pos) (tFor wi g tx) := ⟨ps_for s.1 s.2.1 hi.h hg.h hb.h s.2.2⟩
theorem q_iseq {tg : Expr} {K : PySem.W.Frag} (hl : QE X e te) (s : X.K = K) : QI X tg e (iSeq K te) := s ▸ ⟨pi_seq hl.h⟩
theorem q_raise {x : Str} {C : Addr} {E : XK} {np cpos : Pos} (ha : QA X (e :: es) t) (s : X.calm = true ∧ Thrown X E ∧ Gl X x ∧ X.mg x = some (.ref C) ∧ ExcK X.K C ∧ (e :: es).all plainE = true ∧ (x == ("__debug__" : Str)) = false) :
    QS X (.Raise (some (.Call (.Name x np) (e :: es) [] cpos)) none pos) (fun D σ H => t σ H fun vs H1 => vs.length ≤ sizeLine ∧ E (.ref C) none H1) := ⟨ps_raiseP s.1 s.2.1 s.2.2.1 s.2.2.2.1 s.2.2.2.2.1 ha.h s.2.2.2.2.2.1 s.2.2.2.2.2.2⟩
end
end L2

set_option Elab.async false
set_option linter.all false
set_option maxRecDepth 100000
namespace L2
open PySem PySem.Spec PyProof.Rows
/-! ### reversed(list): the list stays while it is walked -/
def Itv (K : PySem.W.Frag) (a : Addr) (n : Nat) : It :=
  ⟨fun i H => ∃ xs x, SqL K H a xs ∧ xs.length = n ∧ i < n ∧ xs[n - 1 - i]? = some x, fun i H x H' => H' = H ∧ ∀ xs, SqL K H a xs → xs[n - 1 - i]? = some x, fun i _ => n ≤ i⟩
theorem boot_reversed : bootBuiltins "reversed" = some (.type "reversed") := by decide +kernel
def iRev (K : PySem.W.Frag) (ta : TA) : TI := fun σ H R => ta σ H fun vs H1 => ∃ a xs, vs = [.ref a] ∧ SqL K H1 a xs ∧ R (Itv K a xs.length) H1
section
variable {X : Cx} {tg : Expr}
end
/-! ### the closed rules, further -/
structure QGs (X : Cx) (ts : List Expr) (t : TGs) : Prop where
  h : PGs X ts t
structure QO (X : Cx) (e : Option Expr) (t : TO) : Prop where
  h : PO X e t
structure QIf (X : Cx) (ifs : List Expr) (t : TT) : Prop where
  h : PIf X ifs t
theorem assignEach_plain {e : Expr} {es : List Expr} {env : Env} (h : plainE e = true) : assignEach (e :: es) env = (false, assign e env) :: assignEach es env := by
  cases e <;> first | rfl | cases h
theorem assignEach_len {env : Env} : ∀ {es : List Expr}, es.all plainE = true → (assignEach es env).length = es.length ∧ (assignEach es env).findIdx? (·.1) = none
  | [], _ => ⟨rfl, rfl⟩
  | e :: es, h => by
    rw [List.all_cons, Bool.and_eq_true] at h
    obtain ⟨h1, h2⟩ := assignEach_len (env := env) h.2
    rw [assignEach_plain h.1]
    refine ⟨by rw [List.length_cons, List.length_cons, h1], ?_⟩
    rw [List.findIdx?_cons]
    simp [h2]
section
variable {X : Cx} {a b c e : Expr} {es rest : List Expr} {ta tb tc te : TE} {t : TA} {pos : Pos} {K : PySem.W.Frag}
theorem q_irange1 {tg : Expr} {p : Pos} (ha : QA X [a] t) (s : X.mg "range" = none ∧ Gl X "range" ∧ plainE a = true) : QI X tg (.Call (.Name "range" p) [a] [] pos) (iRng1 t) := ⟨pi_range1 s.2.1 s.1 ha.h (star_plain s.2.2)⟩
theorem q_gnil : QGs X [] gNil := ⟨pgs_nil⟩
theorem q_gcons {g : TG} {u : TGs} (h1 : QG X e g) (h2 : QGs X es u) (s : plainE e = true) : QGs X (e :: es) (gCons g u) := ⟨pgs_cons h1.h h2.h (by rw [assignEach_plain s]; rfl)⟩
theorem q_gtup {k : Nat} {u : TGs} (h : QGs X es u) (s : X.K = K ∧ X.calm = true ∧ es.all plainE = true) : QG X (.Tuple es k pos) (gTup K es.length u) := by
  obtain ⟨rfl, s⟩ := s
  exact ⟨pg_tup s.1 h.h (assignEach_len s.2).1 (assignEach_len s.2).2⟩
theorem q_gsub {r : TSet} (ho : QE X a ta) (hi : QE X b tb) (s : PSet X r ∧ ∀ v, assign (.Subscript a b pos) X.env v = (do
      let ov ← holding [v] (eval a X.env)
      let iv ← holding [v, ov] (eval b X.env)
      standAt pos
      holding [v, ov, iv] (setItem ov iv v)
      release [v, ov, iv] [])) : QG X (.Subscript a b pos) (gSub ta tb r) := ⟨pg_sub ho.h hi.h s.1 s.2⟩
/-- o[i] = e -/
theorem q_store {g : TG} {p : Pos} (he : QE X e te) (hg : QG X (.Subscript a b p) g) (s : noComp e = true ∧ swappedStores [.Subscript a b p] e X.env = pure none) : QS X (.Assign [.Subscript a b p] e pos) (tAsg te g) :=
  ⟨ps_asg he.h hg.h (by unfold swapsWithSole; exact swaps_no s.1) s.2 rfl⟩
/-- (x, y, ..) = e, e no tuple display -/
theorem q_unpack {g : TG} {p : Pos} {k : Nat} (he : QE X e te) (hg : QG X (.Tuple es k p) g) (s : noComp e = true ∧ swappedStores [.Tuple es k p] e X.env = pure none) : QS X (.Assign [.Tuple es k p] e pos) (tAsg te g) :=
  ⟨ps_asg he.h hg.h (by unfold swapsWithSole; exact swaps_no s.1) s.2 rfl⟩
def rSlA (K : PySem.W.Frag) : V → Option Int → Option Int → Hp → VK → Prop := fun x lo hi H Q => rSlL K x lo hi H Q ∨ rSlT K x lo hi H Q
/-! comprehensions -/
theorem q_ifnil : QIf X [] tTrue := ⟨pif_nil⟩
theorem q_ifone {tx : TT} (h : QT X c tx) : QIf X [c] tx := ⟨pif_one h.h⟩
theorem q_comp {elt iter : Expr} {ifs : List Expr} {x : Str} {tp : Pos} {i0 : Nat} {N' : List Str} {ix : List (Option Nat)} {scope : Scope} {tx : TT} {wi : TI} (hi : QI X (.Name x tp) iter wi) (hif : ∀ cl C s2 H2 fp, QIf (cxComp X N' scope cl C s2 H2 fp) ifs tx) (helt : ∀ cl C s2 H2 fp, QE (cxComp X N' scope cl C s2 H2 fp) elt te)
    (s : compOkB X.env.scope X.N N' scope ix = true ∧ X.calm = true ∧ N'[i0]? = some x ∧ ix[i0]? = some none ∧ scope.names.lookup x = some .local ∧ ∀ y, foldedSetIterable iter X.env y = pure y) :
    QE X (.ListComp elt [⟨.Name x tp, iter, ifs, 0⟩] scope pos) (tComp wi ix i0 tx te) :=
  ⟨pe_comp (compOk_of s.1) s.2.1 s.2.2.1 s.2.2.2.1 s.2.2.2.2.1 hi.h (fun cl C s2 H2 fp => (hif cl C s2 H2 fp).h) (fun cl C s2 H2 fp => (helt cl C s2 H2 fp).h) s.2.2.2.2.2⟩
theorem q_setcomp {elt iter : Expr} {ifs : List Expr} {x y : Str} {tp py spos : Pos} {i i0 : Nat} {N' : List Str} {ix : List (Option Nat)} {scope : Scope} {tx : TT} {wi : TI} (hi : QI X (.Name x tp) iter wi) (hif : ∀ cl C s2 H2 fp, QIf (cxComp X N' scope cl C s2 H2 fp) ifs tx) (helt : ∀ cl C s2 H2 fp, QE (cxComp X N' scope cl C s2 H2 fp) elt te)
    (s : compOkB X.env.scope X.N N' scope ix = true ∧ X.calm = true ∧ N'[i0]? = some x ∧ ix[i0]? = some none ∧ scope.names.lookup x = some .local ∧ X.N.Nodup ∧ X.N[i]? = some y ∧ X.env.scope.names.lookup y = some .local ∧ (∀ y, foldedSetIterable iter X.env y = pure y) ∧
      swapsWith (.ListComp elt [⟨.Name x tp, iter, ifs, 0⟩] scope pos) (some (.Name y py)) spos.line X.env = pure true) :
    QS X (.Assign [.Name y py] (.ListComp elt [⟨.Name x tp, iter, ifs, 0⟩] scope pos) spos) (fun D σ H => tComp wi ix i0 tx te σ H fun v H1 => D.nx (σ.set i (some v)) H1) :=
  ⟨ps_setComp (compOk_of s.1) s.2.1 s.2.2.1 s.2.2.2.1 s.2.2.2.2.1 s.2.2.2.2.2.1 s.2.2.2.2.2.2.1 s.2.2.2.2.2.2.2.1 hi.h (fun cl C s2 H2 fp => (hif cl C s2 H2 fp).h) (fun cl C s2 H2 fp => (helt cl C s2 H2 fp).h) s.2.2.2.2.2.2.2.2.2 s.2.2.2.2.2.2.2.2.1⟩
end
end L2

set_option Elab.async false
set_option linter.all false
set_option maxRecDepth 100000
namespace L2
open PySem PySem.Spec PyProof.Rows
/-! ### objects: methods by the class that is met, making, attributes -/
/-- a method of the class at C, and its promise -/
structure MOk (P : Program) (w : World) (K : PySem.W.Frag) (mg : Str → Option Value) (base : Heap) (CX : CXT) (k : Nat) (C : Addr) (m : Str) (dvs : List V) (sp : Sp) : Prop where
  ex : ∃ f fd ps ds, Cls K C ∧ Meth K C m f ∧ FnOk P w K mg base CX k f fd ps sp ∧ Binds K fd ps ds ∧ Vals dvs ds
/-- o.m(..): R says which promise the class that is met gives -/
def tMethD (R : Addr → List V → Sp → Prop) (m : Str) (Es : St → XK) (ta : TE) (t : TA) : TE := fun σ H Q => ta σ H fun x H1 => ∃ a C dx fs dvs sp, x = .ref a ∧ H1 a = some (.ins C dx fs) ∧ fs.lookup m = none ∧ R C dvs sp ∧
  t σ H1 fun vs H2 => sp (x :: (vs ++ dvs)) H2 Q (Es σ)
theorem star_all {pos : Pos} {env : Env} : ∀ {es : List Expr}, es.all plainE = true → (backTo pos (starEach es env)).all (fun x => !x.1) = true
  | [], _ => rfl
  | e :: es, h => by
    rw [List.all_cons, Bool.and_eq_true] at h
    rw [star_plain h.1]
    have := star_all (pos := pos) (env := env) h.2
    unfold backTo at this ⊢
    rw [List.map_cons, List.all_cons, this]
    rfl
section
variable {X : Cx} {o e : Expr} {es : List Expr} {m x : Str} {apos pos p : Pos} {ta : TE} {t : TA} {CX : CXT} {k : Nat} {Es : St → XK} {R : Addr → List V → Sp → Prop}
/-- a class that is made by its __init__ (or a base's), and the promise of that -/
structure MkOk (P : Program) (w : World) (K : PySem.W.Frag) (mg : Str → Option Value) (base : Heap) (CX : CXT) (k : Nat) (x : Str) (C : Addr) (dvs : List V) (sp : Sp) : Prop where
  ex : ∃ f fd ps ds, Mk K C f ∧ FnOk P w K mg base CX k f fd ps sp ∧ Binds K fd ps ds ∧ Vals dvs ds ∧ mg x = some (.ref C)
/-- C() of a class without an __init__ -/
structure MkN (K : PySem.W.Frag) (C : Addr) : Prop where
  makes : PySem.W.makesIn K C = true
  init : PySem.W.findIn K (.ref C) "__init__" = some (some (.builtin "object.__init__"))
  kp : PySem.W.keepIn K (.ref C) = true
def tMakeN (C : Addr) : TE := fun _ H Q => ∀ x dx, H x = none → H dx = none → dx ≠ x → Q (.ref x) (upd (upd H dx (.own x)) x (.ins C dx []))
/-! attributes -/
/-! methods of Python's own values -/
theorem q_bm {K : PySem.W.Frag} {T id : String} {r : V → List V → Hp → VK → Prop} (ho : QE X o ta) (ha : QA X (e :: es) t) (s : X.K = K ∧ MtR X id r ∧ PlainAttrs T ∧ Slot T m id ∧ typeOf (.builtin id) = pure (.type "method_descriptor") ∧ attributeBase o m X.env (eval o X.env) = eval o X.env ∧
      (apos.endLine == pos.line) = true ∧ (e :: es).all plainE = true ∧ decide ((e :: es).length + ([] : List Keyword).length + (if ([] : List Keyword).isEmpty then 0 else 1) < 30) = true) : QE X (.Call (.Attribute o m apos) (e :: es) [] pos) (tBM K T r ta t) := by
  obtain ⟨rfl, hm, pa, sl, ty, hb, hl, hp, hn⟩ := s
  have hp' : plainE e = true ∧ es.all plainE = true := by rwa [List.all_cons, Bool.and_eq_true] at hp
  exact ⟨pe_bm pa sl ty hm ho.h ha.h hb (by rw [star_all hp, hn]; rfl) hl (star_plain hp'.1) (star_any hp'.2)⟩
/-! None -/
end
end L2

set_option Elab.async false
set_option linter.all false
set_option maxRecDepth 100000
namespace L2
open PySem PySem.Spec PyProof.Rows
/-! ### branches -/
theorem iteEq {i j : Int} {A B : Prop} (h1 : i = j → A) (h2 : i ≠ j → B) : if decide (V.int i = V.int j) = true then A else B := by
  by_cases h : i = j
  · rw [if_pos (decide_eq_true (by rw [h]))]
    exact h1 h
  · rw [if_neg (fun z => h (by injection of_decide_eq_true z))]
    exact h2 h
theorem iteB {b : Bool} {A B : Prop} (h1 : b = true → A) (h2 : b = false → B) : if b = true then A else B := by
  cases b with
  | true => exact iteT (h1 rfl)
  | false => exact iteF (h2 rfl)
theorem iteD {c A B : Prop} [Decidable c] (h1 : c → A) (h2 : ¬ c → B) : if decide c = true then A else B := by
  by_cases h : c
  · rw [if_pos (decide_eq_true h)]
    exact h1 h
  · rw [if_neg (fun z => h (of_decide_eq_true z))]
    exact h2 h
/-- an own class whose objects are asked by isinstance -/
structure InsT (K : PySem.W.Frag) (C : Addr) : Prop where
  cl : Cls K C
  ca : PySem.W.findIn K (.ref C) "__class__" = some (some (.builtin "object.__class__"))
  hn : PySem.W.specialIn K (.builtin "object.__class__") "__get__" = some (some (.builtin "getset_descriptor.__get__"))
  tk : PySem.W.takesIn K (.builtin "object.__class__") = some true
  mo : PySem.W.mroIn K C (.type "object") = some true
theorem InsT.ty {K : PySem.W.Frag} {C a dx : Addr} {H : Hp} {fs : List (Str × V)} (t : InsT K C) (e : H a = some (.ins C dx fs)) : TyX K H (.ref a) (.ref C) := .of (.ins e t.cl t.ca t.hn t.tk t.mo)
/-! ### what is made new: behind it a heap in which all is as it was, and the new thing -/
def New (H : Hp) (p : Addr) (o : HO) (H' : Hp) : Prop := H p = none ∧ Same H H' ∧ H' p = some o
theorem New.mk' {H : Hp} {p : Addr} {o : HO} (hp : H p = none) : New H p o (upd H p o) := ⟨hp, same_new hp, upd_same⟩
def tLstA (t : TA) : TE := fun σ H Q => t σ H fun xs H1 => xs.length ≤ sizeLine ∧ ∀ p H2, New H1 p (.lst xs) H2 → Q (.ref p) H2
def tTupA (t : TA) : TE := fun σ H Q => t σ H fun xs H1 => xs.length ≤ sizeLine ∧ ∀ p H2, New H1 p (.tup xs) H2 → Q (.ref p) H2
/-- a weaker reading -/
theorem PE.imp {X : Cx} {e : Expr} {t t' : TE} (h : PE X e t) (i : ∀ σ H Q, t' σ H Q → t σ H Q) : PE X e t' := fun pins s σ H Q I q => h pins s σ H Q I (i σ H Q q)
/-- an argument list's reading may be followed by something weaker -/
def MonoA (t : TA) : Prop := ∀ σ H Q Q', (∀ vs H1, Q vs H1 → Q' vs H1) → t σ H Q → t σ H Q'
theorem OpR.imp {X : Cx} {f : Value → Value → Sem Value} {r r' : R2} (h : OpR X f r) (i : ∀ x y H Q, r' x y H Q → r x y H Q) : OpR X f r' := fun pins s σ H x y v u Q I rx ry q => h pins s σ H x y v u Q I rx ry (i x y H Q q)
theorem CallR.imp {X : Cx} {f : Value} {r r' : List V → Hp → VK → Prop} (h : CallR X f r) (i : ∀ xs H Q, r' xs H Q → r xs H Q) : CallR X f r' := fun pins s σ H xs us Q I rs q => h pins s σ H xs us Q I rs (i xs H Q q)
def rCatLB : R2 := fun x y H Q => ∃ l b xs zs, x = .ref l ∧ y = .ref b ∧ H l = some (.lst xs) ∧ H b = some (.lst zs) ∧ xs.length + zs.length ≤ sizeLine ∧ ∀ p H', New H p (.lst (xs ++ zs)) H' → Q (.ref p) H'
def rCatTB : R2 := fun x y H Q => ∃ a b xs ys, x = .ref a ∧ y = .ref b ∧ H a = some (.tup xs) ∧ H b = some (.tup ys) ∧ xs.length + ys.length ≤ sizeLine ∧ ∀ p H', Same H H' → H' p = some (.tup (xs ++ ys)) → Q (.ref p) H'
def rAddB (K : PySem.W.Frag) : R2 := fun x y H Q => rI0 (fun i j => .int (i + j)) x y H Q ∨ rCatTB x y H Q ∨ rCatLB x y H Q ∨ (∃ i j, x = .str i ∧ y = .str j ∧ i.length + j.length ≤ sizeLine ∧ Q (.str (i ++ j)) H)
def rListB (K : PySem.W.Frag) : List V → Hp → VK → Prop := fun xs H Q => ∃ p ys, xs = [.ref p] ∧ (SqL K H p ys ∨ SqT K H p ys) ∧ ∀ l H', New H l (.lst ys) H' → Q (.ref l) H'
def rTupB (K : PySem.W.Frag) : List V → Hp → VK → Prop := fun xs H Q => ∃ p ys, xs = [.ref p] ∧ ((SqL K H p ys ∧ ∀ l H', New H l (.tup ys) H' → Q (.ref l) H') ∨ (SqT K H p ys ∧ Q (.ref p) H))
/-- C(..): a new instance and its dict -/
def NewI (H : Hp) (x dx C : Addr) (H' : Hp) : Prop := H x = none ∧ H dx = none ∧ dx ≠ x ∧ Same H H' ∧ H' x = some (.ins C dx []) ∧ H' dx = some (.own x)
theorem NewI.mk' {H : Hp} {x dx C : Addr} (hx : H x = none) (hd : H dx = none) (n : dx ≠ x) : NewI H x dx C (upd (upd H dx (.own x)) x (.ins C dx [])) := by
  refine ⟨hx, hd, n, fun b o e => ?_, upd_same, ?_⟩
  · rw [upd_ne (ne_of_none e hx), upd_ne (ne_of_none e hd)]
    exact e
  · rw [upd_ne n, upd_same]
def tMakeA (C : Addr) (sp : Sp) (dvs : List V) (t : TA) : TE := fun σ H Q => t σ H fun vs H1 => ∀ x dx H2, NewI H1 x dx C H2 → sp (.ref x :: (vs ++ dvs)) H2 (fun v H3 => v = .non ∧ Q (.ref x) H3) E0
def tMakeNA (C : Addr) : TE := fun _ H Q => ∀ x dx H2, NewI H x dx C H2 → Q (.ref x) H2
section
variable {X : Cx} {K : PySem.W.Frag} {e : Expr} {es : List Expr} {t : TA} {pos p : Pos} {x : Str} {k : Nat}
theorem q_lstA (h : QA X es t) : QE X (.List es pos) (tLstA t) := by
  refine ⟨fun pins s σ H Q I hq => ?_⟩
  refine wpAny_List_spliced (thn (h.h pos pins s σ H _ I hq) fun us s1 ⟨xs, H1, I1, r, z, q⟩ => ⟨by rw [← r.length]; exact z, ?_⟩)
  have hf : H1 s1.heap.objs.size = none := I1.hok.fresh (Nat.le_refl _)
  refine ⟨.ref s1.heap.objs.size, upd H1 s1.heap.objs.size (.lst xs), I1.laid (t' := s1.toks) (fun b u e => Heap.get?_push_of_some _ e) (Nat.le_refl _) ?_, rfl, q _ _ (New.mk' hf)⟩
  exact ⟨z, us, 0, r, Heap.get?_push_size _ rfl⟩
theorem q_tupA {x1} (h : QA X es t) : QE X (.Tuple es x1 pos) (tTupA t) := by
  refine ⟨fun pins s σ H Q I hq => ?_⟩
  refine wpAny_Tuple_spliced (thn (h.h pos pins s σ H _ I hq) fun us s1 ⟨xs, H1, I1, r, z, q⟩ => ⟨by rw [← r.length]; exact z, ?_⟩)
  have hf : H1 s1.heap.objs.size = none := I1.hok.fresh (Nat.le_refl _)
  refine ⟨.ref s1.heap.objs.size, upd H1 s1.heap.objs.size (.tup xs), I1.laid (t' := s1.toks) (fun b u e => Heap.get?_push_of_some _ e) (Nat.le_refl _) ?_, rfl, q _ _ (New.mk' hf)⟩
  exact ⟨z, us, r, ⟨_, Heap.get?_push_size _ rfl, rfl, _, rfl⟩⟩
theorem kaddB (h : X.K = K) : OpR X (binaryOp .Add) (rAddB K) := by
  subst h
  refine (op_addA (X := X)).imp fun x y H Q q => ?_
  rcases q with q | ⟨a, b, xs, ys, rfl, rfl, ha, hb, hz, q⟩ | ⟨l, b, xs, zs, rfl, rfl, h1, h2, hz, q⟩ | q
  · exact .inl q
  · refine .inr (.inl ⟨a, b, xs, ys, rfl, rfl, SqT.of ha, SqT.of hb, hz, fun e => ?_, fun _ e => ?_, fun _ _ p hp => ?_⟩)
    · subst e
      exact q b H (Same.refl H) hb
    · subst e
      exact q a H (Same.refl H) (by rw [List.append_nil]; exact ha)
    · exact q p _ (same_new hp) upd_same
  · exact .inr (.inr (.inl ⟨l, b, xs, zs, rfl, rfl, h1, h2, hz, fun p hp => q p _ (New.mk' hp)⟩))
  · exact .inr (.inr (.inr q))
theorem ktupleB (h : X.K = K) : CallR X (.type "tuple") (rTupB K) := by
  subst h
  refine (call_tuple_of (X := X)).imp fun xs H Q q => ?_
  obtain ⟨p, ys, rfl, q⟩ := q
  refine ⟨p, ys, rfl, ?_⟩
  rcases q with ⟨hs, q⟩ | ⟨hs, q⟩
  · exact .inl ⟨hs, fun l hl => q l _ (New.mk' hl)⟩
  · exact .inr ⟨hs, q⟩
end
end L2

set_option Elab.async false
set_option linter.all false
set_option maxRecDepth 100000
namespace L2
open PySem PySem.Spec PyProof.Rows
/-! ### what the top has written: classes, methods, in bundles -/
structure TopCls (K : PySem.W.Frag) (x : Str) (c : Addr) : Prop where
  ns : PySem.W.nsIn K mainGlobals x = some (some (.ref c))
  ins : InsT K c
theorem topCls_mk {K : PySem.W.Frag} {x : Str} {c : Addr} (a : PySem.W.nsIn K mainGlobals x = some (some (.ref c))) (pg : PySem.W.plainGet K c Str.empty = true) (hd : PySem.W.hasDictIn K c = true) (po : PySem.W.plainOver K c = true)
    (sa : PySem.W.findIn K (.ref c) "__setattr__" = some (some (.builtin "object.__setattr__"))) (ca : PySem.W.findIn K (.ref c) "__class__" = some (some (.builtin "object.__class__")))
    (hn : PySem.W.specialIn K (.builtin "object.__class__") "__get__" = some (some (.builtin "getset_descriptor.__get__"))) (tk : PySem.W.takesIn K (.builtin "object.__class__") = some true) (mo : PySem.W.mroIn K c (.type "object") = some true) : TopCls K x c :=
  ⟨a, ⟨⟨pg, hd, po, sa⟩, ca, hn, tk, mo⟩⟩
/-- a method (found in the class at c, or in a base), its text, its defaults -/
def MthF (K : PySem.W.Frag) (c : Addr) (m qual : Str) (st : Stmt) (dV : Value) : Prop := ∃ f fd, Meth K c m f ∧ FunD K m qual st f fd dV
theorem mthF_mk {K : PySem.W.Frag} {c f : Addr} {m qual : Str} {st : Stmt} {oc : Value} {od an : Option Addr} {osl : Array (Option Value)} {dV kV doc pm cdv ct : Value} (a : PySem.W.findIn K (.ref c) m = some (some (.ref f))) (i : PySem.W.isFn K (.ref f) = true)
    (l : K.lookup f = some ⟨oc, od, .func (PySem.W.fnOf m qual (defArgs st) (defBody st) (defScope st) dV kV doc pm an cdv ct), osl⟩) (cd : PySem.W.codeIn K cdv qual = true) (k : PySem.W.keepIn K (.ref f) = true) : MthF K c m qual st dV :=
  ⟨f, _, ⟨a, i, k⟩, ⟨⟨oc, od, kV, doc, pm, an, cdv, ct, osl, rfl, l, cd⟩, k⟩⟩
/-- the __init__ of the class at c -/
def InitF (K : PySem.W.Frag) (c : Addr) (qual : Str) (st : Stmt) (dV : Value) : Prop := ∃ f fd, Mk K c f ∧ FunD K "__init__" qual st f fd dV
theorem initF_mk {K : PySem.W.Frag} {c f : Addr} {qual : Str} {st : Stmt} {oc : Value} {od an : Option Addr} {osl : Array (Option Value)} {dV kV doc pm cdv ct : Value} (mk : PySem.W.makesIn K c = true) (a : PySem.W.findIn K (.ref c) "__init__" = some (some (.ref f))) (i : PySem.W.isFn K (.ref f) = true) (kc : PySem.W.keepIn K (.ref c) = true)
    (l : K.lookup f = some ⟨oc, od, .func (PySem.W.fnOf "__init__" qual (defArgs st) (defBody st) (defScope st) dV kV doc pm an cdv ct), osl⟩) (cd : PySem.W.codeIn K cdv qual = true) (k : PySem.W.keepIn K (.ref f) = true) : InitF K c qual st dV :=
  ⟨f, _, ⟨mk, a, i, kc⟩, ⟨⟨oc, od, kV, doc, pm, an, cdv, ct, osl, rfl, l, cd⟩, k⟩⟩
section
variable {P : Program} {w : World} {K : PySem.W.Frag} {mg : Str → Option Value} {base h : Heap}
/-- the defaults' tuple -/
def DfV (K : PySem.W.Frag) (dV : Value) (ds : List Value) : Prop := (dV = .none ∧ ds = []) ∨ ∃ T c d n sl, dV = .ref T ∧ K.lookup T = some ⟨c, d, .seq ds.toArray n, sl⟩
theorem MthF.ok {c : Addr} {m qual : Str} {st : Stmt} {dV : Value} {k : Nat} {ps : List Str} {sp : Sp} {dvs : List V} {ds : List Value} (t : MthF K c m qual st dV) (cl : Cls K c) (ok : ∀ f fd, FunD K m qual st f fd dV → FnOk P w K mg base (CXE P w) k f fd ps sp)
    (hb : ∀ (s : Shared) (kV doc pm : Value) (an : Option Addr) (cdv ct : Value) (us : List Value), K.In s.heap → (us ++ ds).length = ps.length → BindsTo s (PySem.W.fnOf m qual (defArgs st) (defBody st) (defScope st) dV kV doc pm an cdv ct) ⟨us, []⟩ (ps.zip (us ++ ds))) (hv : Vals dvs ds) :
    MOk P w K mg base (CXE P w) k c m dvs sp := by
  obtain ⟨f, fd, M, F⟩ := t
  refine ⟨f, fd, ps, ds, cl, M, ok f fd F, ?_, hv⟩
  obtain ⟨oc, od, kV, doc, pm, an, cdv, ct, osl, rfl, lk, hcd⟩ := F.ex
  exact fun s us KI hl => hb s kV doc pm an cdv ct us KI hl
theorem InitF.ok {c : Addr} {x qual : Str} {st : Stmt} {dV : Value} {k : Nat} {ps : List Str} {sp : Sp} {dvs : List V} {ds : List Value} (t : InitF K c qual st dV) (hm : mg x = some (.ref c)) (ok : ∀ f fd, FunD K "__init__" qual st f fd dV → FnOk P w K mg base (CXE P w) k f fd ps sp)
    (hb : ∀ (s : Shared) (kV doc pm : Value) (an : Option Addr) (cdv ct : Value) (us : List Value), K.In s.heap → (us ++ ds).length = ps.length → BindsTo s (PySem.W.fnOf "__init__" qual (defArgs st) (defBody st) (defScope st) dV kV doc pm an cdv ct) ⟨us, []⟩ (ps.zip (us ++ ds))) (hv : Vals dvs ds) :
    MkOk P w K mg base (CXE P w) k x c dvs sp := by
  obtain ⟨f, fd, M, F⟩ := t
  refine ⟨f, fd, ps, ds, M, ok f fd F, ?_, hv, hm⟩
  obtain ⟨oc, od, kV, doc, pm, an, cdv, ct, osl, rfl, lk, hcd⟩ := F.ex
  exact fun s us KI hl => hb s kV doc pm an cdv ct us KI hl
end
end L2

set_option Elab.async false
set_option linter.all false
set_option maxRecDepth 100000
namespace L2
open PySem PySem.Spec PyProof.Rows
/-! ### tests and values that make and change nothing: no second way -/
def PureT (t : TT) (σ : St) (H : Hp) (b : Bool) : Prop := ∀ Q, Q b H → t σ H Q
def PureE (t : TE) (σ : St) (H : Hp) (v : V) : Prop := ∀ Q : VK, Q v H → t σ H Q
theorem PureT.and {t u : TT} {σ : St} {H : Hp} {a b : Bool} (h1 : PureT t σ H a) (h2 : PureT u σ H b) : PureT (tAnd t u) σ H (a && b) := fun Q q => h1 _ (by
  cases a with
  | true => exact iteT (h2 Q q)
  | false => exact iteF q)
theorem PureT.or {t u : TT} {σ : St} {H : Hp} {a b : Bool} (h1 : PureT t σ H a) (h2 : PureT u σ H b) : PureT (tOr t u) σ H (a || b) := fun Q q => h1 _ (by
  cases a with
  | true => exact iteT q
  | false => exact iteF (h2 Q q))
theorem PureT.not {t : TT} {σ : St} {H : Hp} {a : Bool} (h1 : PureT t σ H a) : PureT (tNot t) σ H (!a) := fun Q q => h1 _ q
theorem PureT.val {t : TE} {σ : St} {H : Hp} {a : Bool} (h1 : PureE t σ H (.bl a)) : PureT (tB t) σ H a := fun Q q => h1 _ ⟨a, rfl, q⟩
theorem PureT.op {r : R2} {ta tb : TE} {σ : St} {H : Hp} {x y : V} {c : Bool} (h1 : PureE ta σ H x) (h2 : PureE tb σ H y) (h : ∀ Q : VK, Q (.bl c) H → r x y H Q) : PureT (tTest (tOp r ta tb)) σ H c := fun Q q => h1 _ (h2 _ (h _ ⟨c, rfl, q⟩))
theorem PureE.op {r : R2} {ta tb : TE} {σ : St} {H : Hp} {x y v : V} (h1 : PureE ta σ H x) (h2 : PureE tb σ H y) (h : ∀ Q : VK, Q v H → r x y H Q) : PureE (tOp r ta tb) σ H v := fun Q q => h1 _ (h2 _ (h _ q))
theorem PureE.or {ta tb : TE} {σ : St} {H : Hp} {a b : Bool} (h1 : PureE ta σ H (.bl a)) (h2 : PureE tb σ H (.bl b)) : PureE (tOrV ta tb) σ H (.bl (a || b)) := fun Q q => h1 _ ⟨a, rfl, by
  cases a with
  | true => exact iteT q
  | false => exact iteF (h2 Q q)⟩
theorem PureE.and {ta tb : TE} {σ : St} {H : Hp} {a b : Bool} (h1 : PureE ta σ H (.bl a)) (h2 : PureE tb σ H (.bl b)) : PureE (tAndV ta tb) σ H (.bl (a && b)) := fun Q q => h1 _ ⟨a, rfl, by
  cases a with
  | true => exact iteT (h2 Q q)
  | false => exact iteF q⟩
end L2

set_option Elab.async false
set_option linter.all false
set_option maxRecDepth 100000
set_option maxHeartbeats 1000000
/-! in and not in, of data in a list or tuple of data -/
namespace L2
open PySem
section
variable {X : Cx} {K : PySem.W.Frag}
def rInD (K : PySem.W.Frag) (neg : Bool) : R2 := fun x y H Q => ∃ d es, Rep K H x d ∧ (Rep K H y (.list es) ∨ Rep K H y (.tuple es)) ∧ SeqAt.shaped d = true ∧ SeqAt.shaped (.list es) = true ∧ Q (.bl (if neg then !es.any (fun e => PyData.eqv e d) else es.any (fun e => PyData.eqv e d))) H
theorem shaped_items {es : List PyData} (h : SeqAt.shaped (.list es) = true) : PyData.canLayAll0 es = true ∧ PyData.depthAll es + 1 ≤ 64 := by
  have h1 := SeqAt.canLay_of_shaped h
  have h2 := SeqAt.depth_of_shaped h
  simp only [PyData.canLay0, PyData.depth] at h1 h2
  exact ⟨h1, by omega⟩
theorem op_inD (hu : X.A.units + 64 < cLine) : OpR X (compareOp .In) (rInD X.K false) := by
  intro pins s σ H x y v u Q I rx ry h
  obtain ⟨d, es, r1, r2, h1, h2, q⟩ := h
  obtain ⟨as, ra⟩ := I.reads r1 rx
  have h3 := shaped_items h2
  rcases r2 with r2 | r2 <;> obtain ⟨bs, rb⟩ := I.reads r2 ry
  · exact SeqAt.in_list_reads rb ra h3.1 (SeqAt.canLay_of_shaped h1) (by omega) ⟨.bl _, H, I, rfl, q⟩
  · exact SeqAt.in_tuple_reads rb ra h3.1 (SeqAt.canLay_of_shaped h1) (by omega) ⟨.bl _, H, I, rfl, q⟩
/-- all the ways of in -/
def rInB (K : PySem.W.Frag) : R2 := fun x y H Q => rInA K x y H Q ∨ rInD K false x y H Q
def rNotInB (K : PySem.W.Frag) : R2 := fun x y H Q => rNotInA K x y H Q ∨ rInD K true x y H Q
theorem kinB (h : X.K = K) (hu : X.A.units + 64 < cLine) : OpR X (compareOp .In) (rInB K) := (kin h).or (h ▸ op_inD hu)
end
end L2

set_option Elab.async false
set_option linter.all false
set_option maxRecDepth 100000
namespace L2
open PySem PySem.Spec PyProof.Rows
/-! ### C.m(..): a function read at its class -/
structure CMeth (K : PySem.W.Frag) (C : Addr) (m : Str) (f : Addr) : Prop where
  ga : PySem.W.specialIn K (.ref C) "__getattribute__" = some (some (.builtin "type.__getattribute__"))
  rd : PySem.W.readsIn K C (.type "type") = true
  at_ : PySem.W.findCls K (.ref C) (.type "type") m = some (.val (.ref f))
  kp : PySem.W.keepIn K (.ref f) = true
structure CMOk (P : Program) (w : World) (K : PySem.W.Frag) (mg : Str → Option Value) (base : Heap) (CX : CXT) (k : Nat) (x m : Str) (dvs : List V) (sp : Sp) : Prop where
  ex : ∃ C f fd ps ds, CMeth K C m f ∧ FnOk P w K mg base CX k f fd ps sp ∧ Binds K fd ps ds ∧ Vals dvs ds ∧ mg x = some (.ref C)
section
variable {X : Cx} {e : Expr} {es : List Expr} {m x : Str} {apos pos p : Pos} {t : TA} {CX : CXT} {k : Nat} {Es : St → XK}
end
/-- the class named x, its m, the text -/
def CMthF (K : PySem.W.Frag) (x m qual : Str) (st : Stmt) (dV : Value) : Prop := ∃ C f fd, PySem.W.nsIn K mainGlobals x = some (some (.ref C)) ∧ CMeth K C m f ∧ FunD K m qual st f fd dV
theorem cmthF_mk {K : PySem.W.Frag} {x : Str} {c f : Addr} {m qual : Str} {st : Stmt} {oc : Value} {od an : Option Addr} {osl : Array (Option Value)} {dV kV doc pm cdv ct : Value} (n : PySem.W.nsIn K mainGlobals x = some (some (.ref c))) (a : PySem.W.findIn K (.ref c) m = some (some (.ref f)))
    (ga : PySem.W.specialIn K (.ref c) "__getattribute__" = some (some (.builtin "type.__getattribute__"))) (rd : PySem.W.readsIn K c (.type "type") = true) (fc : PySem.W.findCls K (.ref c) (.type "type") m = some (.val (.ref f)))
    (l : K.lookup f = some ⟨oc, od, .func (PySem.W.fnOf m qual (defArgs st) (defBody st) (defScope st) dV kV doc pm an cdv ct), osl⟩) (cd : PySem.W.codeIn K cdv qual = true) (k : PySem.W.keepIn K (.ref f) = true) : CMthF K x m qual st dV :=
  ⟨c, f, _, n, ⟨ga, rd, fc, k⟩, ⟨⟨oc, od, kV, doc, pm, an, cdv, ct, osl, rfl, l, cd⟩, k⟩⟩
/-- a method that n classes have from one base, its text, its defaults -/
def MthA (K : PySem.W.Frag) (n : Nat) (cs : Nat → Addr) (m qual : Str) (st : Stmt) (dV : Value) : Prop := ∃ f fd, (∀ i, i < n → Meth K (cs i) m f) ∧ FunD K m qual st f fd dV
theorem mthA_mk {K : PySem.W.Frag} {n : Nat} {cs : Nat → Addr} {f : Addr} {m qual : Str} {st : Stmt} {oc : Value} {od an : Option Addr} {osl : Array (Option Value)} {dV kV doc pm cdv ct : Value} (a : PySem.W.findIn K (.ref (cs 0)) m = some (some (.ref f))) (i : PySem.W.isFn K (.ref f) = true)
    (l : K.lookup f = some ⟨oc, od, .func (PySem.W.fnOf m qual (defArgs st) (defBody st) (defScope st) dV kV doc pm an cdv ct), osl⟩) (cd : PySem.W.codeIn K cdv qual = true) (k : PySem.W.keepIn K (.ref f) = true)
    (al : (List.range n).all (fun j => PySem.W.findIn K (.ref (cs j)) m == some (some (.ref f))) = true) : MthA K n cs m qual st dV :=
  ⟨f, _, fun j hj => ⟨beq_iff_eq.mp (List.all_eq_true.mp al j (List.mem_range.mpr hj)), i, k⟩, ⟨⟨oc, od, kV, doc, pm, an, cdv, ct, osl, rfl, l, cd⟩, k⟩⟩
section
variable {P : Program} {w : World} {K : PySem.W.Frag} {mg : Str → Option Value} {base h : Heap}
theorem CMthF.ok {x m qual : Str} {st : Stmt} {dV : Value} {k : Nat} {ps : List Str} {sp : Sp} {dvs : List V} {ds : List Value} (t : CMthF K x m qual st dV) (KX : K.In h) (G : h.Ns mainGlobals mg) (ok : ∀ f fd, FunD K m qual st f fd dV → FnOk P w K mg base (CXE P w) k f fd ps sp)
    (hb : ∀ (s : Shared) (kV doc pm : Value) (an : Option Addr) (cdv ct : Value) (us : List Value), K.In s.heap → (us ++ ds).length = ps.length → BindsTo s (PySem.W.fnOf m qual (defArgs st) (defBody st) (defScope st) dV kV doc pm an cdv ct) ⟨us, []⟩ (ps.zip (us ++ ds))) (hv : Vals dvs ds) :
    CMOk P w K mg base (CXE P w) k x m dvs sp := by
  obtain ⟨C, f, fd, n, M, F⟩ := t
  refine ⟨C, f, fd, ps, ds, M, ok f fd F, ?_, hv, PySem.W.mg_of KX G n⟩
  obtain ⟨oc, od, kV, doc, pm, an, cdv, ct, osl, rfl, lk, hcd⟩ := F.ex
  exact fun s us KI hl => hb s kV doc pm an cdv ct us KI hl
theorem MthA.ok {n : Nat} {cs : Nat → Addr} {m qual : Str} {st : Stmt} {dV : Value} {k : Nat} {ps : List Str} {sp : Nat → Sp} {dvs : List V} {ds : List Value} (t : MthA K n cs m qual st dV) (cl : ∀ i, i < n → Cls K (cs i)) (ok : ∀ i f fd, i < n → FunD K m qual st f fd dV → FnOk P w K mg base (CXE P w) k f fd ps (sp i))
    (hb : ∀ (s : Shared) (kV doc pm : Value) (an : Option Addr) (cdv ct : Value) (us : List Value), K.In s.heap → (us ++ ds).length = ps.length → BindsTo s (PySem.W.fnOf m qual (defArgs st) (defBody st) (defScope st) dV kV doc pm an cdv ct) ⟨us, []⟩ (ps.zip (us ++ ds))) (hv : Vals dvs ds) (i : Nat) (hi : i < n) :
    MOk P w K mg base (CXE P w) k (cs i) m dvs (sp i) := by
  obtain ⟨f, fd, M, F⟩ := t
  refine ⟨f, fd, ps, ds, cl i hi, M i hi, ok i f fd hi F, ?_, hv⟩
  obtain ⟨oc, od, kV, doc, pm, an, cdv, ct, osl, rfl, lk, hcd⟩ := F.ex
  exact fun s us KI hl => hb s kV doc pm an cdv ct us KI hl
end
end L2
namespace L2
open PySem PySem.Spec PyProof.Rows
/-! ### all(..) and any(..) of a list of truths -/
def rAll (K : PySem.W.Frag) : List V → Hp → VK → Prop := fun xs H Q => ∃ p bs, xs = [.ref p] ∧ SqL K H p ((bs : List Bool).map V.bl) ∧ Q (.bl (bs.all id)) H
def rAny (K : PySem.W.Frag) : List V → Hp → VK → Prop := fun xs H Q => ∃ p bs, xs = [.ref p] ∧ SqL K H p ((bs : List Bool).map V.bl) ∧ Q (.bl (bs.any id)) H
section
variable {X : Cx} {K : PySem.W.Frag}
end
end L2

set_option Elab.async false
set_option linter.all false
set_option maxRecDepth 100000
namespace L2
open PySem PySem.Spec PyProof.Rows
/-! ### comprehensions over a list or a tuple, elements and tests that make things anew and change nothing -/
theorem Same.seqT {K : PySem.W.Frag} {H H' : Hp} {a : Addr} {xs : List V} (e : Same H H') (h : SqT K H a xs) : SqT K H' a xs := by
  rcases h with (h | ⟨o, h⟩) | h
  · exact .inl (.inl (e _ _ h))
  · exact .inl (.inr ⟨o, e _ _ h⟩)
  · exact .inr h
theorem Same.updD {H1 H : Hp} {D : Addr} {o : HO} (hD : H1 D = none) (s : Same H1 H) : Same H1 (upd H D o) := fun b q e => by
  rw [upd_ne (ne_of_none e hD)]
  exact s _ _ e
theorem take_fm {f : V → Option V} {xs : List V} {i : Nat} {x : V} (ex : xs[i]? = some x) : (xs.take (i + 1)).filterMap f = (xs.take i).filterMap f ++ (f x).toList := by
  rw [List.take_add_one, ex, List.filterMap_append]
  have : List.filterMap f [x] = (f x).toList := by cases h : f x <;> simp [h]
  exact congrArg _ this
theorem comp_F {J : It} {D : Addr} {σ0 : St} {i0 : Nat} {tc : TT} {te : TE} {Q : VK} {H1 : Hp} (xs : List V) (f : V → Option V) (hD : H1 D = none) (hn : xs.length ≤ 1000000)
    (hgo : ∀ (i : Nat) x H, Same H1 H → xs[i]? = some x → J.go i H) (hst : ∀ H, Same H1 H → J.stop xs.length H) (hy : ∀ (i : Nat) x H H', Same H1 H → i < xs.length → J.yld i H x H' → H' = H ∧ xs[i]? = some x)
    (he : ∀ (i : Nat) x H (Qy : VK) (Qn : Hp → Prop), xs[i]? = some x → Same H1 H → (∀ H' y, Same H H' → f x = some y → Qy y H') → (∀ H', Same H H' → f x = none → Qn H') → tc (σ0.set i0 (some x)) H fun b H3 => if b = true then te (σ0.set i0 (some x)) H3 Qy else Qn H3)
    (hq : ∀ H', Same H1 H' → H' D = some (.lst (xs.filterMap f)) → Q (.ref D) H') :
    ∃ W : Nat → Nat → Hp → Prop, (∃ m, W 0 m (upd H1 D (.lst []))) ∧ compW J D σ0 i0 tc te Q W := by
  have hs : (1000000 : Nat) < sizeLine := by decide
  refine ⟨fun i m H => m = xs.length - i ∧ i ≤ xs.length ∧ Same H1 H ∧ H D = some (.lst ((xs.take i).filterMap f)), ⟨xs.length, by simp, Nat.zero_le _, same_new hD, by rw [upd_same]; rfl⟩, ?_⟩
  rintro i m H ⟨rfl, hi, sm, hd⟩
  by_cases hlt : i < xs.length
  · refine .inr ⟨hgo i xs[i] H sm (by simp [hlt]), fun x H' y => ?_⟩
    obtain ⟨e, ex⟩ := hy i x H H' sm hlt y
    subst e
    have et := take_fm (f := f) ex
    have hl : ((xs.take i).filterMap f).length ≤ i := Nat.le_trans (List.length_filterMap_le _ _) (by simp; omega)
    refine he i x _ _ _ ex sm (fun H2 z s2 hf => ?_) (fun H2 s2 hf => ?_)
    · rw [hf] at et
      exact ⟨_, s2 _ _ hd, by omega, xs.length - (i + 1), by omega, rfl, hlt, Same.updD hD (sm.trans s2), by rw [upd_same, et]; rfl⟩
    · rw [hf] at et
      exact ⟨xs.length - (i + 1), by omega, rfl, hlt, sm.trans s2, by rw [et]; simpa using s2 _ _ hd⟩
  · have e : i = xs.length := by omega
    subst e
    exact .inl ⟨hst H sm, hq H sm (by rw [List.take_length] at hd; exact hd)⟩
/-! ### data that lies in the heap as it was made -/
mutual
inductive Dat (H : Hp) : V → PyData → Prop
  | non : Dat H .non .none
  | bl (b : Bool) : Dat H (.bl b) (.bool b)
  | int (i : Int) : Dat H (.int i) (.int i)
  | str (x : Str) : Dat H (.str x) (.str x)
  | lst {a : Addr} {xs : List V} {ds : List PyData} : H a = some (.lst xs) → Dats H xs ds → Dat H (.ref a) (.list ds)
  | tup {a : Addr} {xs : List V} {ds : List PyData} : H a = some (.tup xs) → Dats H xs ds → Dat H (.ref a) (.tuple ds)
inductive Dats (H : Hp) : List V → List PyData → Prop
  | nil : Dats H [] []
  | cons {x : V} {xs : List V} {d : PyData} {ds : List PyData} : Dat H x d → Dats H xs ds → Dats H (x :: xs) (d :: ds)
end
mutual
theorem Dat.rep {K : PySem.W.Frag} {H : Hp} : ∀ {x : V} {d : PyData}, Dat H x d → Rep K H x d
  | _, _, .non => .non
  | _, _, .bl b => .bl b
  | _, _, .int i => .int i
  | _, _, .str x => .str x
  | _, _, .lst h r => .lst (SqL.of h) r.reps
  | _, _, .tup h r => .tup (SqT.of h) r.reps
theorem Dats.reps {K : PySem.W.Frag} {H : Hp} : ∀ {xs : List V} {ds : List PyData}, Dats H xs ds → Reps K H xs ds
  | _, _, .nil => .nil
  | _, _, .cons a b => .cons a.rep b.reps
end
mutual
theorem Dat.keep {H H' : Hp} (s : Same H H') : ∀ {x : V} {d : PyData}, Dat H x d → Dat H' x d
  | _, _, .non => .non
  | _, _, .bl b => .bl b
  | _, _, .int i => .int i
  | _, _, .str x => .str x
  | _, _, .lst h r => .lst (s _ _ h) (r.keep s)
  | _, _, .tup h r => .tup (s _ _ h) (r.keep s)
theorem Dats.keep {H H' : Hp} (s : Same H H') : ∀ {xs : List V} {ds : List PyData}, Dats H xs ds → Dats H' xs ds
  | _, _, .nil => .nil
  | _, _, .cons a b => .cons (a.keep s) (b.keep s)
end
theorem Dats.length {H : Hp} : ∀ {xs : List V} {ds : List PyData}, Dats H xs ds → xs.length = ds.length
  | _, _, .nil => rfl
  | _, _, .cons _ b => by rw [List.length_cons, List.length_cons, b.length]
theorem Dats.get {H : Hp} : ∀ {xs : List V} {ds : List PyData} {i : Nat} {x : V}, Dats H xs ds → xs[i]? = some x → ∃ d, ds[i]? = some d ∧ Dat H x d
  | _, _, 0, _, .cons a b, e => by simp at e; subst e; exact ⟨_, rfl, a⟩
  | _, _, i + 1, _, .cons a b, e => by
    rw [List.getElem?_cons_succ] at e ⊢
    exact b.get e
/-- the name of data's type -/
def tyName : PyData → String
  | .none => "NoneType"
  | .bool _ => "bool"
  | .int _ => "int"
  | .str _ => "str"
  | .list _ => "list"
  | _ => "tuple"
theorem Dat.ty {K : PySem.W.Frag} {H : Hp} {x : V} {d : PyData} (h : Dat H x d) : TyN K H x (tyName d) := by
  cases h with
  | non => exact .non
  | bl b => exact .bl b
  | int i => exact .int i
  | str x => exact .str x
  | lst h r => exact .lst h
  | tup h r => exact .tup h
end L2

set_option Elab.async false
set_option linter.all false
set_option maxRecDepth 100000
namespace L2
open PySem PySem.Spec PyProof.Rows
/-! ### deeds, as data and as objects of four classes -/
inductive D where
  | read (a : Int) | write (a v : Int) | add (a v : Int) | swap (a o n : Int)
deriving DecidableEq
def D.vs : D → List V
  | .read a => [.str "read", .int a]
  | .write a v => [.str "write", .int a, .int v]
  | .add a v => [.str "add", .int a, .int v]
  | .swap a o n => [.str "swap", .int a, .int o, .int n]
def D.adr : D → Int
  | .read a => a | .write a _ => a | .add a _ => a | .swap a _ _ => a
def D.beh : D → Int → Int
  | .read _, x => x | .write _ v, _ => v | .add _ v, x => x + v | .swap _ o n, x => if x = o then n else x
def D.wish : D → V
  | .read _ => .str "read" | _ => .str "write"
def D.ix : D → Nat
  | .read _ => 0 | .write _ _ => 1 | .add _ _ => 2 | .swap _ _ _ => 3
def D.ds : D → List PyData
  | .read a => [.str "read", .int a]
  | .write a v => [.str "write", .int a, .int v]
  | .add a v => [.str "add", .int a, .int v]
  | .swap a o n => [.str "swap", .int a, .int o, .int n]
theorem D.dats {H : Hp} (d : D) : Dats H d.vs d.ds := by
  cases d with
  | read a => exact .cons (.str _) (.cons (.int a) .nil)
  | write a v => exact .cons (.str _) (.cons (.int a) (.cons (.int v) .nil))
  | add a v => exact .cons (.str _) (.cons (.int a) (.cons (.int v) .nil))
  | swap a o n => exact .cons (.str _) (.cons (.int a) (.cons (.int o) (.cons (.int n) .nil)))
theorem D.dat {H : Hp} {p : Addr} (d : D) (h : H p = some (.tup d.vs)) : Dat H (.ref p) (.tuple d.ds) := .tup h d.dats
theorem D.rep {K : PySem.W.Frag} {H : Hp} {p : Addr} (d : D) (h : H p = some (.tup d.vs)) : Rep K H (.ref p) (.tuple d.ds) := (d.dat h).rep
theorem D.all {n : Nat} (d : D) : ∀ e ∈ d.ds, Shp n e := by
  cases d with
  | read a => exact all1 (.str (by decide +kernel)) (all1 (.int a) all0)
  | write a v => exact all1 (.str (by decide +kernel)) (all1 (.int a) (all1 (.int v) all0))
  | add a v => exact all1 (.str (by decide +kernel)) (all1 (.int a) (all1 (.int v) all0))
  | swap a o n => exact all1 (.str (by decide +kernel)) (all1 (.int a) (all1 (.int o) (all1 (.int n) all0)))
def D.tl : D → List Int
  | .read a => [a]
  | .write a v => [a, v]
  | .add a v => [a, v]
  | .swap a o n => [a, o, n]
theorem D.cut (d : D) : cutV d.vs (some 1) none = d.tl.map V.int := by
  have : ((1 : Int)) = ((1 : Nat) : Int) := rfl
  rw [this, cut_drop (by cases d <;> simp [D.vs])]
  cases d <;> rfl
theorem D.at1 (d : D) : atI d.vs 1 = some (.int d.adr) := by cases d <;> rfl
/-- what is a deed, told as data -/
def deedOf : PyData → Option D
  | .tuple [.str w, .int a] => if w = "read" ∧ 0 ≤ a then some (.read a) else none
  | .tuple [.str w, .int a, .int v] => if w = "write" ∧ 0 ≤ a then some (.write a v) else if w = "add" ∧ 0 ≤ a then some (.add a v) else none
  | .tuple [.str w, .int a, .int o, .int n] => if w = "swap" ∧ 0 ≤ a then some (.swap a o n) else none
  | _ => none
def isI : PyData → Bool
  | .int _ => true
  | _ => false
def isIV : V → Bool
  | .int _ => true
  | _ => false
theorem Dat.isI {H : Hp} {x : V} {d : PyData} (h : Dat H x d) : isIV x = L2.isI d := by cases h <;> rfl
/-- a word and how many parts: a kind's -/
def FormOk (w : Str) (n : Nat) : Prop := (w = "read" ∧ n = 2) ∨ (w = "write" ∧ n = 3) ∨ (w = "add" ∧ n = 3) ∨ (w = "swap" ∧ n = 4)
instance {w : Str} {n : Nat} : Decidable (FormOk w n) := inferInstanceAs (Decidable (_ ∨ _ ∨ _ ∨ _))
def formsD : List PyData := [.tuple [.str "read", .int 2], .tuple [.str "write", .int 3], .tuple [.str "add", .int 3], .tuple [.str "swap", .int 4]]
/-- what is no deed -/
def notD (H : Hp) (x : V) : Prop := ∃ d, Dat H x d ∧ Shp 3 d ∧ deedOf d = none
theorem notD.keep {H H' : Hp} {x : V} (h : notD H x) (s : Same H H') : notD H' x := let ⟨d, a, b, c⟩ := h; ⟨d, a.keep s, b, c⟩
/-- a deed as an object: its class by its kind, its tuple -/
def DeedAt (dc : Nat → Addr) (H : Hp) (a : Addr) (d : D) : Prop := ∃ dx p, H a = some (.ins (dc d.ix) dx [(("parts" : Str), .ref p)]) ∧ H p = some (.tup d.vs)
theorem DeedAt.keep {dc : Nat → Addr} {H H' : Hp} {a : Addr} {d : D} (h : DeedAt dc H a d) (s : Same H H') : DeedAt dc H' a d := let ⟨dx, p, e, f⟩ := h; ⟨dx, p, s _ _ e, s _ _ f⟩
theorem DeedAt.upd {dc : Nat → Addr} {H : Hp} {a p : Addr} {d : D} {xs ys : List V} (h : DeedAt dc H a d) (hp : H p = some (.lst xs)) : DeedAt dc (L2.upd H p (.lst ys)) a d := by
  obtain ⟨dx, q, e, f⟩ := h
  refine ⟨dx, q, ?_, ?_⟩
  · rw [upd_ne (ne_of e hp (by intro z; cases z))]
    exact e
  · rw [upd_ne (ne_of f hp (by intro z; cases z))]
    exact f
/-- the four classes -/
structure Dcl (K : PySem.W.Frag) (cD : Addr) (dc : Nat → Addr) : Prop where
  ins : ∀ i, i < 4 → InsT K (dc i)
  is : ∀ i, i < 4 → PySem.W.kitOne K (.ref (dc i)) (.ref cD) = some true
  np : ∀ i, i < 4 → NoAttr K (dc i) "parts"
def spM (dc : Nat → Addr) (r : D → Hp → VK → Prop) (i : Nat) : Sp := fun vs H Q _ => ∃ a d, vs = [.ref a] ∧ DeedAt dc H a d ∧ d.ix = i ∧ r d H Q
def rPlain (d : D) (H : Hp) (Q : VK) : Prop := ∀ p, H p = some (.tup d.vs) → Q (.ref p) H
def rPlace (d : D) (H : Hp) (Q : VK) : Prop := Q (.int d.adr) H
def rWants (d : D) (H : Hp) (Q : VK) : Prop := Q d.wish H
def spB (dc : Nat → Addr) (i : Nat) : Sp := fun vs H Q _ => ∃ a d v, vs = [.ref a, .int v] ∧ DeedAt dc H a d ∧ d.ix = i ∧ Q (.int (d.beh v)) H
def RD (dc : Nat → Addr) (sp : Nat → Sp) (C : Addr) (dvs : List V) (q : Sp) : Prop := ∃ i, i < 4 ∧ C = dc i ∧ dvs = [] ∧ q = sp i
def spDeedOf (dc : Nat → Addr) (cN : Addr) : Sp := fun vs H Q E => (∃ (p : Addr) (d : D), vs = [.ref p] ∧ H p = some (.tup d.vs) ∧ 0 ≤ d.adr ∧ ∀ a H', Same H H' → H a = none → DeedAt dc H' a d → Q (.ref a) H') ∨ ∃ x, vs = [x] ∧ notD H x ∧ ∀ H', Same H H' → E (.ref cN) none H'
/-! ### what the top has written: tuples, classes of errors -/
theorem sq_mk {K : PySem.W.Frag} {a : Addr} {od : Option Addr} {its : Array Value} {n : Nat} {sl : Array (Option Value)} {xs : List V} (l : K.lookup a = some ⟨.type "tuple", od, .seq its n, sl⟩) (hz : its.size ≤ sizeLine) (hv : Vals xs its.toList) : ∀ H, SqT K H a xs :=
  fun _ => .inr ⟨_, its, n, l, rfl, rfl, hz, hv⟩
theorem excK_mk {K : PySem.W.Frag} {C N : Addr} {nm q : Str} {bs tl : List Value} {hdct : Bool} {sn : List Str} {sub : List Value} {ab : Bool} {col : Option Bool} {dd : Option Addr} {k0 k1 k2 k3 k5 : Option Value} {oN : Obj}
    (l1 : K.lookup C = some (excClassObj nm q C N bs tl hdct sn sub ab col dd k0 k1 k2 k3 k5 "ValueError.__new__")) (l2 : K.lookup N = some oN) (b : nsKB oN = true) (t : TailK K tl) : ExcK K C :=
  ⟨nm, q, N, bs, tl, hdct, sn, sub, ab, col, dd, k0, k1, k2, k3, k5, oN, l1, l2, b, t⟩
def TupK2 (K : PySem.W.Frag) (b : Addr) (w : Str) (k : Int) : Prop := ∀ H, Rep K H (.ref b) (.tuple [.str w, .int k])
theorem tupK2_mk {K : PySem.W.Frag} {b : Addr} {w : Str} {k : Int} {od : Option Addr} {n : Nat} {t u : Tok} {sl : Array (Option Value)} (l : K.lookup b = some ⟨.type "tuple", od, .seq #[.str w t, .int k u] n, sl⟩) : TupK2 K b w k :=
  fun H => .tup (sq_mk (xs := [.str w, .int k]) l (by show 2 ≤ sizeLine; decide) (.cons ⟨_, rfl⟩ (.cons ⟨_, rfl⟩ .nil)) H) (.cons (.str _) (.cons (.int _) .nil))
def FormsK (K : PySem.W.Frag) (a : Addr) : Prop := ∀ H, Rep K H (.ref a) (.tuple formsD)
theorem formsK_mk {K : PySem.W.Frag} {a b0 b1 b2 b3 : Addr} {od : Option Addr} {n : Nat} {sl : Array (Option Value)} (l : K.lookup a = some ⟨.type "tuple", od, .seq #[.ref b0, .ref b1, .ref b2, .ref b3] n, sl⟩)
    (h0 : TupK2 K b0 "read" 2) (h1 : TupK2 K b1 "write" 3) (h2 : TupK2 K b2 "add" 3) (h3 : TupK2 K b3 "swap" 4) : FormsK K a :=
  fun H => .tup (sq_mk (xs := [.ref b0, .ref b1, .ref b2, .ref b3]) l (by show 4 ≤ sizeLine; decide) (.cons rfl (.cons rfl (.cons rfl (.cons rfl .nil)))) H) (.cons (h0 H) (.cons (h1 H) (.cons (h2 H) (.cons (h3 H) .nil))))
end L2

set_option Elab.async false
set_option linter.all false
set_option maxRecDepth 100000
namespace L2
open PySem PySem.Spec PyProof.Rows
/-! ### comprehensions whose target is any (a tuple of names) -/
def keepSt (σ σ' : St) : Prop := σ'.length = σ.length ∧ ∀ (k : Nat) v, σ[k]? = some (some v) → σ'[k]? = some (some v)
def compWT (J : It) (D : Addr) (σ0 : St) (g : TG) (tc : TT) (te : TE) (Q : VK) (W : Nat → Nat → Hp → Prop) : Prop :=
  ∀ i m H, W i m H → (J.stop i H ∧ Q (.ref D) H) ∨ (J.go i H ∧ ∀ x H', J.yld i H x H' → g x σ0 H' fun σ2 H2 => keepSt σ0 σ2 ∧ tc σ2 H2 fun b H3 =>
    if b = true then te σ2 H3 fun y H4 => ∃ ys, H4 D = some (.lst ys) ∧ ys.length < sizeLine ∧ ∃ m', m' < m ∧ W (i + 1) m' (upd H4 D (.lst (ys ++ [y])))
    else ∃ m', m' < m ∧ W (i + 1) m' H3)
def tCompT (wi : TI) (ix : List (Option Nat)) (g : TG) (tc : TT) (te : TE) : TE := fun σ H Q => wi σ H fun J H1 => ∀ D, H1 D = none →
  ∃ W : Nat → Nat → Hp → Prop, (∃ m, W 0 m (upd H1 D (.lst []))) ∧ compWT J D (pick ix σ) g tc te Q W
section
variable {X : Cx} {pins : List (Addr × Obj)} {σ : St} {H2 : Hp} {s2 : Shared} {N' : List Str} {scope : Scope} {ix : List (Option Nat)} {fp : List Addr} {cl : List (Str × Addr)}
theorem comp_runT {E : Value → Shared → Prop} {elt iter : Expr} {ifs : List Expr} {tg : Expr} {pos : Pos} {g : TG} {tc : TT} {te : TE} {J : It} {it : Addr} {tn : Nat → Heap → Prop} {Q : VK} {RR : Value → Addr → Result → Shared → Prop}
    (O : CompOk X N' scope ix) (hc : X.calm = true) (hg : ∀ cl C s2 H2 fp, PG (cxComp X N' scope cl C s2 H2 fp) tg g) (I : Inv X pins σ H2 s2) (T : Turn X.prog X.w X.K tg J fp it tn) (st : tn 0 s2.heap) (fpo : ∀ b ∈ fp, FpOk X pins H2 b)
    (cls : ∀ y c, cl.lookup y = some c → X.env.cells.lookup y = some c) (clh : ∀ x ∈ scope.names, x.2 = .free → ∃ c, cl.lookup x.1 = some c)
    (hif : ∀ cl C s2 H2 fp, PIf (cxComp X N' scope cl C s2 H2 fp) ifs tc) (helt : ∀ cl C s2 H2 fp, PE (cxComp X N' scope cl C s2 H2 fp) elt te)
    {W : Nat → Nat → Hp → Prop} (w0 : ∃ m, W 0 m (upd H2 s2.heap.objs.size (.lst []))) (hW : compWT J s2.heap.objs.size (pick ix σ) g tc te Q W)
    (hRR : ∀ C H' s', s2.heap.objs.size ≤ C → Inv (cxComp X N' scope cl C s2 H2 fp) [] (pick ix σ) H' s' → Q (.ref s2.heap.objs.size) H' → RR (.ref s2.heap.objs.size) C (.ok .next) s') :
    wpAny (model X.prog X.w) X.A (newList []) (fun acc s₃ => wpAny (model X.prog X.w) X.A (newFunctionEnv scope X.env.globals cl [] X.env.qual none .none (some X.env)) (fun cenv s₄ =>
      codeAny (model X.prog X.w) X.A (.compStart (.ListComp elt [⟨tg, iter, ifs, 0⟩] scope pos) 0 (.ref it) acc { cenv with scope := relabel scope X.env }) (RR acc cenv.locals) s₄) E s₃) E s2 := by
  refine wpAny_newObj_type (wpAny_newFunctionEnv O.nocell (by intro y hy; simp at hy) (fun h₁ hns₁ hsb₁ => ?_) O.kind)
  have fpl : ∀ b ∈ fp, b < s2.heap.objs.size := fun b hb => by
    obtain ⟨o, e, _⟩ := T.obj _ _ st b hb
    exact Heap.lt_size e
  have hCs : (s2.heap.push { cls := .type "list", dict := none, data := .seq ([] : List Value).toArray }).objs.size = s2.heap.objs.size + 1 := Heap.size_push ..
  have old : ∀ b o, s2.heap.get? b = some o → h₁.get? b = some o := fun b o e => by
    refine hsb₁.extBut b o ?_ (Heap.get?_push_of_some _ (Heap.get?_push_of_some _ e))
    exact Nat.ne_of_lt (by rw [hCs]; exact Nat.lt_succ_of_lt (Heap.lt_size e))
  have hacc : h₁.get? s2.heap.objs.size = some { cls := .type "list", data := .seq #[] } := by
    refine hsb₁.extBut _ _ ?_ (Heap.get?_push_of_some _ (Heap.get?_push_size _ rfl))
    exact Nat.ne_of_lt (by rw [hCs]; exact Nat.lt_succ_self _)
  obtain ⟨m0, w0⟩ := w0
  generalize hCg : (s2.heap.push { cls := .type "list", dict := none, data := .seq ([] : List Value).toArray }).objs.size = C at hns₁ hsb₁ hCs ⊢
  have I1 : Inv (cxComp X N' scope cl C s2 H2 fp) [] (pick ix σ) (upd H2 s2.heap.objs.size (.lst [])) { s2 with heap := h₁, toks := s2.toks + ([] : List (Str × Value)).length } :=
    comp_start O I fpo fpl cls clh rfl hCs hns₁ old hacc
  have st1 : tn 0 h₁ := T.keep _ _ _ st fun b _ o e => old b o e
  have fr1 : ∀ b ∈ fp, upd H2 s2.heap.objs.size (.lst []) b = none := fun b hb => by
    rw [upd_ne (Nat.ne_of_lt (fpl b hb))]
    exact (fpo b hb).1
  have loop : ∀ s₃ : Shared, s₃ = { s2 with heap := h₁, toks := s2.toks + ([] : List (Str × Value)).length } →
      codeAny (model X.prog X.w) X.A (.compLoop (.ListComp elt [⟨tg, iter, ifs, 0⟩] scope pos) 0 (.ref it) (.ref s2.heap.objs.size) (compEnvC scope cl C X.env)) (RR (.ref s2.heap.objs.size) C) s₃ := by
    rintro s₃ rfl
    have stat : ∀ {H' : Hp}, (∀ b ∈ fp, H' b = none) → ∀ b ∈ fp, FpOk (cxComp X N' scope cl C s2 H2 fp) [] H' b := fun {H'} hn b hb => by
      obtain ⟨_, f1, f2, _, f4, _⟩ := fpo b hb
      refine ⟨hn b hb, Nat.ne_of_lt (by show b < C; rw [hCs]; exact Nat.lt_succ_of_lt (fpl b hb)), fun z => ?_, .inl hb, fun x c e => f4 x c (cls x c e), fun p hp => absurd hp (by simp)⟩
      rcases List.mem_cons.mp (I.stkSub b z) with q | q
      · exact f1 q
      · exact f2 q
    refine compLoop_own (fun n s' => ∃ i H', Inv (cxComp X N' scope cl C s2 H2 fp) [] (pick ix σ) H' s' ∧ tn i s'.heap ∧ (∀ b ∈ fp, H' b = none) ∧ W i n H') ?_ m0 ⟨0, _, I1, st1, fr1, w0⟩
    rintro n s3 ⟨i, H3, I3, st3, fr3, w3⟩
    rcases hW i n H3 w3 with ⟨stop, q⟩ | ⟨go, step⟩
    · refine thn (T.done (cxComp X N' scope cl C s2 H2 fp) rfl rfl rfl hc i [] s3 (pick ix σ) H3 (fun _ _ => False) I3 (stat fr3) st3 stop) fun r s4 ⟨hr, I4⟩ => ?_
      subst hr
      exact hRR C H3 s4 (by rw [hCs]; exact Nat.le_succ _) I4 q
    · refine thn (T.item (cxComp X N' scope cl C s2 H2 fp) rfl rfl rfl hc i [] s3 (pick ix σ) H3 (fun _ _ => False) I3 (stat fr3) st3 go) fun r s4 ⟨u, hr, h4⟩ => ?_
      subst hr
      refine thn h4 fun _ s5 ⟨x, H5, I5, r5, y5, st5, fr5⟩ => ?_
      have I5' := I5.pinned (stat fr5) (T.obj _ _ st5)
      have again : ∀ {s7 : Shared} {σ7 : St} {H7 : Hp} {m' : Nat}, Inv (cxComp X N' scope cl C s2 H2 fp) ([] ++ pinsAt fp s5.heap) σ7 H7 s7 → keepSt (pick ix σ) σ7 → m' < n → W (i + 1) m' H7 →
          ∃ m, m < n ∧ ∃ i H', Inv (cxComp X N' scope cl C s2 H2 fp) [] (pick ix σ) H' s7 ∧ tn i s7.heap ∧ (∀ b ∈ fp, H' b = none) ∧ W i m H' := fun {s7 σ7 H7 m'} I7 hk7 hm w7 => by
        refine ⟨m', hm, i + 1, H7, I7.unpinned.weak hk7.1.symm (fun k v e => ?_), T.keep _ _ _ st5 fun b hb o e => (I7.pin (b, o) (List.mem_append_right _ (List.mem_append_right _ (mem_pinsAt hb e)))).1, fun b hb => ?_, w7⟩
        · exact hk7.2 k v e
        · obtain ⟨o, e, d⟩ := T.obj _ _ st5 b hb
          exact (I7.pin (b, o) (List.mem_append_right _ (List.mem_append_right _ (mem_pinsAt hb e)))).2.1
      refine thn (hg cl C s2 H2 fp _ s5 (pick ix σ) H5 x u _ I5' r5 (step x H5 y5)) fun _ s6 ⟨σ6, H6, I6, k6, e6⟩ => ?_
      refine thn (hif cl C s2 H2 fp _ s6 _ H6 _ I6 e6) fun ok s7 ⟨H7, I7, q7⟩ => ?_
      cases ok with
      | false =>
        rw [if_neg Bool.false_ne_true] at q7 ⊢
        obtain ⟨m', hm, w7⟩ := q7
        exact again I7 k6 hm w7
      | true =>
        rw [if_pos rfl] at q7 ⊢
        refine thn (helt cl C s2 H2 fp _ s7 _ H7 _ I7 q7) fun y s8 ⟨vy, H8, I8, r8, ys, hD8, hz, m', hm, w8⟩ => ?_
        refine thn (mt_append (X := cxComp X N' scope cl C s2 H2 fp) _ s8 _ H8 (.ref s2.heap.objs.size) [vy] (.ref s2.heap.objs.size) [y] (fun _ H9 => H9 = upd H8 s2.heap.objs.size (.lst (ys ++ [vy]))) I8 rfl (.cons r8 .nil) ⟨_, ys, vy, rfl, rfl, hD8, hz, rfl⟩)
          fun _ s9 ⟨v9, H9, I9, r9, q9⟩ => ?_
        subst q9
        exact again I9 k6 hm w8
  exact codeAny_compStart_list (loop _ rfl) (T.self _ 0 _ _ _ st1 (loop _ rfl))
/-- [elt for t in iter if c], as an expression -/
theorem pe_compT {elt iter : Expr} {ifs : List Expr} {tg : Expr} {pos : Pos} {g : TG} {tc : TT} {te : TE} {wi : TI} (O : CompOk X N' scope ix) (hc : X.calm = true) (hg : ∀ cl C s2 H2 fp, PG (cxComp X N' scope cl C s2 H2 fp) tg g)
    (hi : PI X tg iter wi) (hif : ∀ cl C s2 H2 fp, PIf (cxComp X N' scope cl C s2 H2 fp) ifs tc) (helt : ∀ cl C s2 H2 fp, PE (cxComp X N' scope cl C s2 H2 fp) elt te) (hs : ∀ x, foldedSetIterable iter X.env x = pure x := by intro _; rfl) :
    PE X (.ListComp elt [⟨tg, iter, ifs, 0⟩] scope pos) (tCompT wi ix g tc te) := by
  intro pins s σ H Q I h
  obtain ⟨cl, hcl, cls, clh⟩ := closure_of (scope := scope) (env := X.env) fun x hx hk => I.ok.has x.1 (O.free x hx hk)
  rw [eval_ListComp]
  refine wpAny_comprehension_free (use := none) rfl hs hcl O.kind O.names (thn (hi pins s σ H _ I h) fun v s1 h1 => thn h1 fun itv s2 h2 => ?_)
  obtain ⟨it, fp, tn, J, H2, e, I2, T, st2, f2, hR⟩ := h2
  subst e
  obtain ⟨W, w0, hW⟩ := hR s2.heap.objs.size (I2.hok.fresh (Nat.le_refl _))
  refine comp_runT (RR := fun acc C => compPost (model X.prog X.w) X.A X.xe none (EP X pins σ Q) acc C) O hc hg I2 T st2 f2 cls clh hif helt w0 hW fun C H' s' hC J' q => ?_
  obtain ⟨m, hn, _⟩ := J'.loc
  refine ⟨m, hn, fun h' hs' => ⟨.ref s2.heap.objs.size, H', comp_letgo I2 hC (comp_back I2 f2 J') J'.free hs', rfl, q⟩⟩
/-- y = [elt for t in iter if c] -/
theorem ps_setCompT {elt iter : Expr} {ifs : List Expr} {tg : Expr} {y : Str} {pos py spos : Pos} {i : Nat} {g : TG} {tc : TT} {te : TE} {wi : TI} (O : CompOk X N' scope ix) (hc : X.calm = true) (hg : ∀ cl C s2 H2 fp, PG (cxComp X N' scope cl C s2 H2 fp) tg g)
    (hN : X.N.Nodup) (hy : X.N[i]? = some y) (hyl : X.env.scope.names.lookup y = some .local)
    (hi : PI X tg iter wi) (hif : ∀ cl C s2 H2 fp, PIf (cxComp X N' scope cl C s2 H2 fp) ifs tc) (helt : ∀ cl C s2 H2 fp, PE (cxComp X N' scope cl C s2 H2 fp) elt te)
    (hsw : swapsWith (.ListComp elt [⟨tg, iter, ifs, 0⟩] scope pos) (some (.Name y py)) spos.line X.env = pure true := by rfl) (hs : ∀ x, foldedSetIterable iter X.env x = pure x := by intro _; rfl) :
    PS X (.Assign [.Name y py] (.ListComp elt [⟨tg, iter, ifs, 0⟩] scope pos) spos) (fun D σ H => tCompT wi ix g tc te σ H fun v H1 => D.nx (σ.set i (some v)) H1) := by
  intro pins s σ H D I h
  obtain ⟨cl, hcl, cls, clh⟩ := closure_of (scope := scope) (env := X.env) fun x hx hk => I.ok.has x.1 (O.free x hx hk)
  rw [exec_Assign_Name_used _ _ _ _ hsw]
  refine wpAny_bind (wpAny_standAt (wpAny_bind ?_))
  show wpAny _ X.A (do let _ ← comprehension (.ListComp elt [⟨tg, iter, ifs, 0⟩] scope pos) scope X.env _ (newList []) false (eval iter X.env) (some (assign (.Name y py) X.env))) _ _ s
  refine wpAny_bind (wpAny_mono (wpAny_comprehension_free (use := some (assign (.Name y py) X.env)) (Q := fun _ s' => SP X pins D .next s') rfl hs hcl O.kind O.names
    (thn (hi pins s σ H _ I h) fun v s1 h1 => thn h1 fun itv s2 h2 => ?_)) (fun _ s' hq => wpAny_pure (wpAny_pure hq)) fun _ _ e => e)
  obtain ⟨it, fp, tn, J, H2, e, I2, T, st2, f2, hR⟩ := h2
  subst e
  obtain ⟨W, w0, hW⟩ := hR s2.heap.objs.size (I2.hok.fresh (Nat.le_refl _))
  refine comp_runT (RR := fun acc C => compPost (model X.prog X.w) X.A X.xe (some (assign (.Name y py) X.env)) (fun _ s' => SP X pins D .next s') acc C) O hc hg I2 T st2 f2 cls clh hif helt w0 hW fun C H' s' hC J' q => ?_
  show wpAny _ X.A (assign (.Name y py) X.env (.ref s2.heap.objs.size)) _ _ s'
  have I4 := comp_back I2 f2 J'
  obtain ⟨m, hn, _⟩ := J'.loc
  refine wpAny_assign_Name (store_ok2 (v := .ref s2.heap.objs.size) I4 hN hy (.inl hyl) rfl (fun s5 I5 hs5 => ?_) (.inr hyl))
  have hCL : X.env.locals ≠ C := Nat.ne_of_lt (Nat.lt_of_lt_of_le I2.lt hC)
  obtain ⟨a, ha, hac⟩ := hs5
  have haC : C ≠ a := by
    rcases hac with z | z
    · rw [z]; exact Ne.symm hCL
    · obtain ⟨v, q⟩ := I2.cell y a z
      exact Nat.ne_of_gt (Nat.lt_of_lt_of_le q.lt hC)
  exact ⟨m, hn.sameBut ha haC, fun h' hs' => ⟨_, H', comp_letgo I2 hC I5 J'.free hs', q⟩⟩

variable {te : TE} {pos : Pos}
theorem q_compT {elt iter tg : Expr} {ifs : List Expr} {g : TG} {tx : TT} {wi : TI} (hi : QI X tg iter wi) (hg : ∀ cl C s2 H2 fp, QG (cxComp X N' scope cl C s2 H2 fp) tg g) (hif : ∀ cl C s2 H2 fp, QIf (cxComp X N' scope cl C s2 H2 fp) ifs tx) (helt : ∀ cl C s2 H2 fp, QE (cxComp X N' scope cl C s2 H2 fp) elt te)
    (s : compOkB X.env.scope X.N N' scope ix = true ∧ X.calm = true ∧ ∀ y, foldedSetIterable iter X.env y = pure y) :
    QE X (.ListComp elt [⟨tg, iter, ifs, 0⟩] scope pos) (tCompT wi ix g tx te) :=
  ⟨pe_compT (compOk_of s.1) s.2.1 (fun cl C s2 H2 fp => (hg cl C s2 H2 fp).h) hi.h (fun cl C s2 H2 fp => (hif cl C s2 H2 fp).h) (fun cl C s2 H2 fp => (helt cl C s2 H2 fp).h) s.2.2⟩
theorem q_setcompT {elt iter tg : Expr} {ifs : List Expr} {g : TG} {y : Str} {py spos : Pos} {i : Nat} {tx : TT} {wi : TI} (hi : QI X tg iter wi) (hg : ∀ cl C s2 H2 fp, QG (cxComp X N' scope cl C s2 H2 fp) tg g) (hif : ∀ cl C s2 H2 fp, QIf (cxComp X N' scope cl C s2 H2 fp) ifs tx) (helt : ∀ cl C s2 H2 fp, QE (cxComp X N' scope cl C s2 H2 fp) elt te)
    (s : compOkB X.env.scope X.N N' scope ix = true ∧ X.calm = true ∧ X.N.Nodup ∧ X.N[i]? = some y ∧ X.env.scope.names.lookup y = some .local ∧ (∀ y, foldedSetIterable iter X.env y = pure y) ∧
      swapsWith (.ListComp elt [⟨tg, iter, ifs, 0⟩] scope pos) (some (.Name y py)) spos.line X.env = pure true) :
    QS X (.Assign [.Name y py] (.ListComp elt [⟨tg, iter, ifs, 0⟩] scope pos) spos) (fun D σ H => tCompT wi ix g tx te σ H fun v H1 => D.nx (σ.set i (some v)) H1) :=
  ⟨ps_setCompT (compOk_of s.1) s.2.1 (fun cl C s2 H2 fp => (hg cl C s2 H2 fp).h) s.2.2.1 s.2.2.2.1 s.2.2.2.2.1 hi.h (fun cl C s2 H2 fp => (hif cl C s2 H2 fp).h) (fun cl C s2 H2 fp => (helt cl C s2 H2 fp).h) s.2.2.2.2.2.2 s.2.2.2.2.2.1⟩
end
end L2

set_option Elab.async false
set_option linter.all false
set_option maxRecDepth 100000
namespace L2
open PySem PySem.Spec PyProof.Rows
/-! ### dicts whose keys are ints and texts, as closed rules -/
section
variable {X : Cx} {o i e value : Expr} {pos pos' apos cpos : Pos} {td ty tv : TE}
def tDNewA : TE := fun _ H Q => ∀ p H', New H p (.dK []) H' → Q (.ref p) H'
/-- dict(d) -/
def rDictOf : List V → Hp → VK → Prop := fun xs H Q => ∃ a kvs, xs = [.ref a] ∧ H a = some (.dK kvs) ∧ ∀ p H', New H p (.dK kvs) H' → Q (.ref p) H'
def rLenD (K : PySem.W.Frag) : List V → Hp → VK → Prop := fun xs H Q => rLenA K xs H Q ∨ ∃ a kvs, xs = [V.ref a] ∧ H a = some (.dK kvs) ∧ Q (.int kvs.length) H
end
/-! ### xs.remove(x) of ints -/
theorem idx_int {ns : List Int} {x : Int} (h : x ∈ ns) : ∃ j, ns.findIdx? (· == x) = some j ∧ j < ns.length ∧ ns[j]? = some x ∧ (∀ m, m < j → ns[m]? ≠ some x) ∧ ns.eraseIdx j = ns.erase x := by
  induction ns with
  | nil => cases h
  | cons n ns ih =>
    by_cases e : n = x
    · subst e
      exact ⟨0, by simp [List.findIdx?_cons], by simp, rfl, fun m hm => by omega, by simp⟩
    · have h' : x ∈ ns := (List.mem_cons.mp h).elim (fun z => absurd z.symm e) id
      obtain ⟨j, h1, h2, h3, h4, h5⟩ := ih h'
      refine ⟨j + 1, ?_, ?_, ?_, ?_, ?_⟩
      · rw [List.findIdx?_cons]
        simp [e, h1]
      · simpa using h2
      · simpa using h3
      · intro m hm
        cases m with
        | zero => simpa using e
        | succ m => simpa using h4 m (by omega)
      · rw [List.eraseIdx_cons_succ, h5, List.erase_cons_tail (by simpa using e)]
end L2

set_option Elab.async false
set_option linter.all false
set_option maxRecDepth 100000
namespace L2
open PySem PySem.Spec PyProof.Rows
/-! ### a op b op' c; x.bit_length() -/
section
variable {X : Cx} {a b c : Expr} {ta tb tc : TE} {pos : Pos}
theorem q_tchain {op op' : CmpOp} {r r' : R2} (ha : QE X a ta) (hb : QE X b tb) (hc : QE X c tc) (s : OpR X (compareOp op) r ∧ OpR X (compareOp op') r' ∧ lastMarks [op, op'] [b, c] = false) : QT X (.Compare a [op, op'] [b, c] pos) (tTest (tChain r r' ta tb tc)) := ⟨pt_chain s.1 s.2.1 ha.h hb.h hc.h s.2.2⟩
def tBits (t : TE) : TE := fun σ H Q => t σ H fun x H1 => ∃ i : Int, x = .int i ∧ Q (.int ((Builtin.Int.intBits i : Nat) : Int)) H1
end
end L2
namespace L2
open PySem PySem.Spec PyProof.Rows
/-- a comprehension over a range, with a test -/
theorem comp_rangeF {n : Nat} {lo : Int} {D : Addr} {σ0 : St} {i0 : Nat} {tc : TT} {te : TE} {Q : VK} {H1 : Hp} (f : V → Option V) (hD : H1 D = none) (hn : n ≤ 1000000)
    (he : ∀ (i : Nat) H (Qy : VK) (Qn : Hp → Prop), i < n → Same H1 H → (∀ H' y, Same H H' → f (.int (lo + i)) = some y → Qy y H') → (∀ H', Same H H' → f (.int (lo + i)) = none → Qn H') → tc (σ0.set i0 (some (.int (lo + i)))) H fun b H3 => if b = true then te (σ0.set i0 (some (.int (lo + i)))) H3 Qy else Qn H3)
    (hq : ∀ H', Same H1 H' → H' D = some (.lst (((List.range n).map fun i => V.int (lo + (i : Nat))).filterMap f)) → Q (.ref D) H') :
    ∃ W : Nat → Nat → Hp → Prop, (∃ m, W 0 m (upd H1 D (.lst []))) ∧ compW (Itr lo n) D σ0 i0 tc te Q W := by
  have hl : ((List.range n).map fun i => V.int (lo + (i : Nat))).length = n := by rw [List.length_map, List.length_range]
  have at_ : ∀ i, i < n → ((List.range n).map fun i => V.int (lo + (i : Nat)))[i]? = some (V.int (lo + (i : Nat))) := fun i hi => by
    rw [List.getElem?_map, List.getElem?_range hi]
    rfl
  refine comp_F ((List.range n).map fun i => V.int (lo + (i : Nat))) f hD (by omega) (fun i x H _ e => ?_) (fun H _ => ?_) (fun i x H H' _ hi y => ?_) (fun i x H Qy Qn e sm h1 h2 => ?_) hq
  · have := (List.getElem?_eq_some_iff.mp e).1
    rw [hl] at this
    exact this
  · rw [hl]
    exact Nat.le_refl n
  · rw [hl] at hi
    exact ⟨y.1, y.2 ▸ at_ i hi⟩
  · have hi := (List.getElem?_eq_some_iff.mp e).1
    rw [hl] at hi
    obtain rfl : V.int (lo + (i : Nat)) = x := Option.some.inj ((at_ i hi).symm.trans e)
    exact he i H Qy Qn hi sm h1 h2
end L2

set_option Elab.async false
set_option linter.all false
set_option maxRecDepth 100000
namespace L2
open PySem PySem.Spec PyProof.Rows
/-! ### for i, x in enumerate(list): the list stays while it is walked -/
section
variable {X : Cx} {pins : List (Addr × Obj)} {σ : St} {H : Hp} {s : Shared} {h' : Heap}
/-- some untracked records of ours have turned -/
theorem Inv.turnedL {fp : List Addr} {t' : Nat} (I : Inv X pins σ H s) (k : ∀ b o, b ∉ fp → s.heap.get? b = some o → h'.get? b = some o) (f : ∀ b ∈ fp, FpOk X pins H b) : Inv X pins σ H { s with heap := h', toks := t' } := by
  have nit : ∀ b u, H b = some u → b ∉ fp := fun b u e z => by
    rw [(f b z).1] at e
    cases e
  refine I.step (g' := s.gens) (d' := s.drawn) (ch := fp) (fun b hb => ?_) (fun b o _ _ hc e _ => k b o hc e) (fun b o _ _ hc e _ => ⟨o.slots, k b o hc e⟩) (fun _ _ _ _ n => n)
    (fun b o hc e => ⟨o, k b o hc e⟩) (fun _ _ e => e) (fun _ _ _ e => e) (fun b ps e => ⟨#[], by rw [e]; simp⟩) (fun m hm => ?_) (fun b u e => ?_) I.bare
  · obtain ⟨_, hL, _, h1, h2, h3⟩ := f b hb
    exact ⟨h1, hL, h2, h3⟩
  · obtain ⟨o, es, ep, ho, r⟩ := hm
    exact ⟨o, es, ep, k _ o (fun z => (f _ z).2.1 rfl) ho, r⟩
  · refine (I.hok b u e).stay (fun c v hc q => k c v ?_ q) (fun _ q => q) fun _ _ q => q
    rcases hc with z | z
    · rw [z]
      exact nit b u e
    · exact nit c _ z
/-- what lies in the heap by now is tracked -/
theorem Inv.adoptA {a : Addr} {o : HO} (I : Inv X pins σ H s) (f : FpOk X pins H a) (ge : X.s₀.heap.objs.size ≤ a) (new : ObjOk X.prog X.w (upd H a o) s.heap a o) : Inv X pins σ (upd H a o) s := by
  obtain ⟨f0, f1, f2, f3, f4, f5⟩ := f
  have nn : ∀ {b : Addr}, b ≠ a → H b = none → upd H a o b = none := fun hb e => by rw [upd_ne hb]; exact e
  have ss : Same H (upd H a o) := fun b u e => by
    rw [upd_ne (fun z => by rw [z, f0] at e; cases e)]
    exact e
  refine ⟨I.ok, I.os, I.bare, ⟨I.base.keep, I.base.slot, fun b u e n x => nn (fun z => by subst z; exact absurd (Heap.lt_size e) (Nat.not_lt.mpr ge)) (I.base.free b u e n x), I.base.there, fun b xs e => ss _ _ (I.base.tups b xs e), fun b u v e => ss _ _ (I.base.frzs b u v e), fun b ps e => let ⟨m, h⟩ := I.base.tbls b ps e; ⟨m, ss _ _ h⟩⟩, I.loc, I.cell, nn (Ne.symm f1) I.free, fun x c e => nn (f4 x c e) (I.freeC x c e), fun p hp => ?_, fun b u e => ?_, I.len⟩
  · obtain ⟨a1, a2, a3, a4, a5⟩ := I.pin p hp
    exact ⟨a1, nn (f5 p hp) a2, a3, a4, a5⟩
  · by_cases hb : b = a
    · subst hb
      rw [upd_same] at e
      cases e
      exact new
    · rw [upd_ne hb] at e
      exact (I.hok b u e).stay (fun c v _ r => r) (fun c r => ss _ _ r) fun c xs r => ss _ _ r
end
def Itn (K : PySem.W.Frag) (a : Addr) : It :=
  ⟨fun i H => ∃ xs x, SqL K H a xs ∧ xs[i]? = some x, fun i H x H' => ∃ t y, x = .ref t ∧ New H t (.tup [.int ((i : Nat) : Int), y]) H' ∧ ∀ xs, SqL K H a xs → xs[i]? = some y, fun i H => ∃ xs, SqL K H a xs ∧ xs.length ≤ i⟩
theorem turn_enum {P : Program} {w : World} {K : PySem.W.Frag} {elts : List Expr} {x1 : Nat} {tp : Pos} (a e it : Addr) (hne : e ≠ it) : Turn P w K (.Tuple elts x1 tp) (Itn K a) [e, it] e (fun i h => (∃ old, IsEnum h e it ((i : Nat) : Int) old) ∧ h.IsListIter it a i) where
  mem := by simp
  obj := fun i h st b hb => by
    obtain ⟨⟨old, st⟩, o, ho, c, d⟩ := st
    rcases List.mem_cons.mp hb with rfl | hb
    · exact ⟨_, st, fun v z => by cases z⟩
    · obtain rfl := List.mem_singleton.mp hb
      exact ⟨o, ho, fun v z => by rw [d] at z; cases z⟩
  keep := fun i h h' ⟨⟨old, st⟩, o, ho, r⟩ k => ⟨⟨old, k e (by simp) _ st⟩, o, k it (by simp) o ho, r⟩
  item := by
    intro X hP hw hK hc i pins s σ H E I hf st hg
    subst hP hw hK
    obtain ⟨xs, x, hq, hx⟩ := hg
    obtain ⟨its, rv, p, hz⟩ := I.list hq
    obtain ⟨u, hu, ru⟩ := rv.get hx
    obtain ⟨⟨old, st1⟩, st2⟩ := st
    have fa := I.fpOk (Nat.le_refl _) (I.hok.fresh (Nat.le_refl _))
    have he : s.heap.objs.size ≠ e := Nat.ne_of_gt (Heap.lt_size st1)
    have hi : s.heap.objs.size ≠ it := by
      obtain ⟨o, ho, _⟩ := st2
      exact Nat.ne_of_gt (Heap.lt_size ho)
    refine wpAny_pyNext_enum_item st1 st2 p.isList (x := u) (by simpa using hu) hne fun h' st' it' ht hz' hk => ⟨.ref s.heap.objs.size, rfl, ?_⟩
    refine wpAny_letOwnedTupleGo_enum st' fun h2 st3 sb => ?_
    replace sb : Heap.SameBut e h' h2 := sb
    have I1 : Inv X pins σ H { s with heap := h2, toks := s.toks + 1 } := I.turnedL (fp := [e, it]) (fun b o hb q => (sb.2 b (fun z => hb (by simp [z]))).trans (hk b o (fun z => hb (by simp [z])) (fun z => hb (by simp [z])) q)) hf
    have ht2 : h2.get? s.heap.objs.size = some { cls := .type "tuple", data := .seq #[.int ((i : Nat) : Int) s.toks, u] } := (sb.2 _ he).trans ht
    have new : ObjOk X.prog X.w (upd H s.heap.objs.size (.tup [.int ((i : Nat) : Int), x])) h2 s.heap.objs.size (.tup [.int ((i : Nat) : Int), x]) := ⟨by show 2 ≤ sizeLine; decide, [.int ((i : Nat) : Int) s.toks, u], .cons ⟨_, rfl⟩ (.cons ru .nil), _, ht2, rfl, _, rfl⟩
    have I2 := I1.adoptA fa I.sz new
    have nw := New.mk' (o := .tup [.int ((i : Nat) : Int), x]) fa.1
    refine ⟨.ref s.heap.objs.size, _, I2, rfl, ⟨_, x, rfl, nw, fun ys hy => by rw [I.list_inj hy hq]; exact hx⟩, ⟨⟨_, st3⟩, ?_⟩, fun b hb => ?_⟩
    · obtain ⟨o, ho, r⟩ := it'
      exact ⟨o, (sb.2 it (Ne.symm hne)).trans ho, r⟩
    · rw [upd_ne (fun z => ?_)]
      · exact (hf b hb).1
      · rcases List.mem_cons.mp hb with w | w
        · exact he (z.symm.trans w)
        · exact hi (z.symm.trans (List.mem_singleton.mp w))
  done := by
    intro X hP hw hK hc i pins s σ H E I hf st hg
    subst hP hw hK
    obtain ⟨xs, hq, hx⟩ := hg
    obtain ⟨its, rv, p, hz⟩ := I.list hq
    obtain ⟨⟨old, st1⟩, st2⟩ := st
    have hl := rv.length
    exact wpAny_pyNext_enum_end (I.ok.hd hc) st1 st2 p.isList (by simp; omega) fun h' eb => ⟨rfl, I.turnedL (fp := [e, it]) (t' := s.toks) (fun b o hb q => eb b o (fun z => hb (by simp [z])) q) hf⟩
  self := fun _ _ _ _ _ ⟨⟨_, st⟩, _⟩ h => wpAny_pyIter_enum st h
theorem boot_enumerate : bootBuiltins "enumerate" = some (.type "enumerate") := by decide +kernel
def iEnum (K : PySem.W.Frag) (ta : TA) : TI := fun σ H R => ta σ H fun vs H1 => ∃ a xs, vs = [.ref a] ∧ SqL K H1 a xs ∧ R (Itn K a) H1
section
variable {X : Cx} {elts : List Expr} {x1 : Nat} {tp : Pos}
end
end L2

set_option Elab.async false
set_option linter.all false
set_option maxRecDepth 100000
namespace L2
open PySem PySem.Spec PyProof.Rows
/-! ### comprehensions whose elements make things: what holds of the list so far -/
theorem comp_R {J : It} {D : Addr} {σ0 : St} {i0 : Nat} {tc : TT} {te : TE} {Q : VK} {H1 : Hp} (xs : List V) (R : Nat → List V → Hp → Prop) (hD : H1 D = none) (hn : xs.length ≤ 1000000)
    (hgo : ∀ (i : Nat) x H, Same H1 H → xs[i]? = some x → J.go i H) (hst : ∀ H, Same H1 H → J.stop xs.length H) (hy : ∀ (i : Nat) x H H', Same H1 H → i < xs.length → J.yld i H x H' → H' = H ∧ xs[i]? = some x)
    (h0 : ∀ H, Same H1 H → R 0 [] H) (hlen : ∀ i ys H, R i ys H → ys.length ≤ i) (hu : ∀ i ys H zs us, R i ys H → H D = some (.lst zs) → R i ys (upd H D (.lst us)))
    (he : ∀ (i : Nat) x H ys (Qy : VK) (Qn : Hp → Prop), xs[i]? = some x → Same H1 H → R i ys H → (∀ H' y, Same H H' → R (i + 1) (ys ++ [y]) H' → Qy y H') → (∀ H', Same H H' → R (i + 1) ys H' → Qn H') → tc (σ0.set i0 (some x)) H fun b H3 => if b = true then te (σ0.set i0 (some x)) H3 Qy else Qn H3)
    (hq : ∀ H' ys, Same H1 H' → R xs.length ys H' → H' D = some (.lst ys) → Q (.ref D) H') :
    ∃ W : Nat → Nat → Hp → Prop, (∃ m, W 0 m (upd H1 D (.lst []))) ∧ compW J D σ0 i0 tc te Q W := by
  have hs : (1000000 : Nat) < sizeLine := by decide
  refine ⟨fun i m H => m = xs.length - i ∧ i ≤ xs.length ∧ Same H1 H ∧ ∃ ys, R i ys H ∧ H D = some (.lst ys), ⟨xs.length, by simp, Nat.zero_le _, same_new hD, [], h0 _ (same_new hD), upd_same⟩, ?_⟩
  rintro i m H ⟨rfl, hi, sm, ys, hR, hd⟩
  by_cases hlt : i < xs.length
  · refine .inr ⟨hgo i xs[i] H sm (by simp [hlt]), fun x H' y => ?_⟩
    obtain ⟨e, ex⟩ := hy i x H H' sm hlt y
    subst e
    have hl := hlen i ys _ hR
    refine he i x _ ys _ _ ex sm hR (fun H2 z s2 hf => ?_) (fun H2 s2 hf => ?_)
    · exact ⟨_, s2 _ _ hd, by omega, xs.length - (i + 1), by omega, rfl, hlt, Same.updD hD (sm.trans s2), ys ++ [z], hu _ _ _ _ _ hf (s2 _ _ hd), upd_same⟩
    · exact ⟨xs.length - (i + 1), by omega, rfl, hlt, sm.trans s2, ys, hf, s2 _ _ hd⟩
  · have e : i = xs.length := by omega
    subst e
    exact .inl ⟨hst H sm, hq H ys sm hR hd⟩
theorem comp_rangeR {n : Nat} {lo : Int} {D : Addr} {σ0 : St} {i0 : Nat} {tc : TT} {te : TE} {Q : VK} {H1 : Hp} (R : Nat → List V → Hp → Prop) (hD : H1 D = none) (hn : n ≤ 1000000)
    (h0 : ∀ H, Same H1 H → R 0 [] H) (hlen : ∀ i ys H, R i ys H → ys.length ≤ i) (hu : ∀ i ys H zs us, R i ys H → H D = some (.lst zs) → R i ys (upd H D (.lst us)))
    (he : ∀ (i : Nat) H ys (Qy : VK) (Qn : Hp → Prop), i < n → Same H1 H → R i ys H → (∀ H' y, Same H H' → R (i + 1) (ys ++ [y]) H' → Qy y H') → (∀ H', Same H H' → R (i + 1) ys H' → Qn H') → tc (σ0.set i0 (some (.int (lo + i)))) H fun b H3 => if b = true then te (σ0.set i0 (some (.int (lo + i)))) H3 Qy else Qn H3)
    (hq : ∀ H' ys, Same H1 H' → R n ys H' → H' D = some (.lst ys) → Q (.ref D) H') :
    ∃ W : Nat → Nat → Hp → Prop, (∃ m, W 0 m (upd H1 D (.lst []))) ∧ compW (Itr lo n) D σ0 i0 tc te Q W := by
  have hl : ((List.range n).map fun i => V.int (lo + (i : Nat))).length = n := by rw [List.length_map, List.length_range]
  have at_ : ∀ i, i < n → ((List.range n).map fun i => V.int (lo + (i : Nat)))[i]? = some (V.int (lo + (i : Nat))) := fun i hi => by
    rw [List.getElem?_map, List.getElem?_range hi]
    rfl
  refine comp_R ((List.range n).map fun i => V.int (lo + (i : Nat))) R hD (by omega) (fun i x H _ e => ?_) (fun H _ => ?_) (fun i x H H' _ hi y => ?_) h0 hlen hu (fun i x H ys Qy Qn e sm hR h1 h2 => ?_) (fun H' ys s hR e => hq H' ys s (hl ▸ hR) e)
  · have := (List.getElem?_eq_some_iff.mp e).1
    rw [hl] at this
    exact this
  · rw [hl]
    exact Nat.le_refl n
  · rw [hl] at hi
    exact ⟨y.1, y.2 ▸ at_ i hi⟩
  · have hi := (List.getElem?_eq_some_iff.mp e).1
    rw [hl] at hi
    obtain rfl : V.int (lo + (i : Nat)) = x := Option.some.inj ((at_ i hi).symm.trans e)
    exact he i H ys Qy Qn hi sm hR h1 h2
end L2
namespace L2
open PySem
/-- the truth of a list, a tuple, a dict, a number, a text -/
def tTruthA (K : PySem.W.Frag) (ta : TE) : TT := fun σ H Q => ta σ H fun x H1 => ∃ k, TruV K x H1 k ∧ Q k H1
end L2

set_option Elab.async false
set_option linter.all false
set_option maxRecDepth 100000
namespace L2
open PySem PySem.Spec PyProof.Rows
/-! ### sorted(list of whole numbers) -/
def rSort (K : PySem.W.Frag) : List V → Hp → VK → Prop := fun xs H Q => ∃ p ns, xs = [.ref p] ∧ SqL K H p ((ns : List Int).map V.int) ∧ ns.length < 64 ∧ ∀ (q : Addr) (ns' : List Int) (H' : Hp), ns'.Perm ns → ns'.Pairwise (· ≤ ·) → New H q (.lst (ns'.map V.int)) H' → Q (.ref q) H'
section
variable {X : Cx} {K : PySem.W.Frag}
end
end L2
namespace L2
end L2

set_option Elab.async false
set_option linter.all false
set_option maxRecDepth 100000
namespace L2
open PySem PySem.Spec PyProof.Rows
/-! ### d.get(k, x); [e for i, x in enumerate(list) if c] -/
def enumV (f : Nat → V → Option V) (xs : List V) (n : Nat) : List V := (List.range n).filterMap fun j => (xs[j]?).bind (f j)
end L2

set_option Elab.async false
set_option linter.all false
set_option maxRecDepth 100000
namespace L2
open PySem PySem.Spec PyProof.Rows
open Sem (wp)
open AutoSeq1 (wpAny_loadPart')
/-! ### enumerate(tuple): as Ext32 has it for lists -/
def enO (it : Addr) : Obj := { cls := .type "enumerate", data := .fields #[.none, .bool false, .ref it, rawInt 0, .none, .none] }
def itO (l : Addr) : Obj := { cls := .type "tuple_iterator", data := .fields #[.ref l, .int 0 0] }
set_option maxHeartbeats 1000000 in
theorem enumT_new (l : Addr) (xs : Array Value) (k : Nat) (dd : Option Addr) (ss : Array (Option Value)) : Meets (Builtin.«enumerate.__new__» ⟨[.type "enumerate", .ref l], []⟩) (fun _ R s => s.heap.get? l = some { cls := .type "tuple", dict := dd, data := .seq xs k, slots := ss } ∧ R (.ok (.ret (.ref (s.heap.push (itO l)).objs.size))) { s with heap := (s.heap.push (itO l)).push (enO s.heap.objs.size) }) :=
  .of_wp fun prog w A R s ⟨el, r⟩ => by
    obtain ⟨hp, g, d, tk, os⟩ := s
    have sb := sub_enumerate
    have tl : Heap.IsTuple (Shared.heap ⟨hp, g, d, tk, os⟩) l xs := ⟨_, el, rfl, k, rfl⟩
    unfold itO enO at r
    wp_walk using wpAny_loadPart' el
    refine wpAny_stack_any fun _ => wpAny_pure ?_
    split
    · rename_i c _ _ _ _ _
      cases (c == Value.type "enumerate") <;> (wp_walk using wpAny_loadPart' el, wpAny_pyIter_tuple tl; exact ⟨_, rfl, r⟩)
    · wp_walk using wpAny_loadPart' el, wpAny_pyIter_tuple tl
      exact ⟨_, rfl, r⟩
section
variable {prog : Program} {w : World} {A : Around} {E : Value → Shared → Prop} {s : Shared}
theorem nextT_item {it t : Addr} {i : Nat} {xs : Array Value} {x : Value} {Q : Value → Shared → Prop} (ui : s.heap.IsTupleIter it t i) (ut : s.heap.IsTuple t xs) (ux : xs[i]? = some x) (q : ∀ h', h'.IsTupleIter it t (i + 1) → Heap.SameBut it s.heap h' → Q x { s with heap := h' }) : wpAny (model prog w) A (Builtin.SmallTypes.nextOf (.ref it)) Q E s := by
  obtain ⟨o, ho, hc, hd⟩ := id ui
  obtain ⟨p, hp, _, np, dp⟩ := ut
  unfold Builtin.SmallTypes.nextOf
  refine wpAny_bind (wpAny_callSpecial?_slot (name := Str.ofString "__next__") ui.typeIs F.slot_tuple_iterator_next (wpAny_call_entry F.slot_tuple_iterator_next ui.typeIs F.entry_tuple_iterator_next ?_ (F.args_tuple_iterator_next_1 _)))
  refine (wpAny_bind (wpAny_field ho hd (x := .ref t) rfl ?_) : wpAny _ _ (field (.ref it) 0 >>= _) _ _ s)
  refine (?_ : wpAny _ _ (if (Value.ref t == Value.none) = true then _ else _) _ _ s)
  rw [if_neg (fun z => by cases z)]
  refine (wpAny_bind (wpAny_field ho hd (x := .int i 0) rfl ?_) : wpAny _ _ (field (.ref it) 1 >>= _) _ _ s)
  refine (wpAny_bind (wpAny_seqItems hp dp ?_) : wpAny _ _ (seqItems? (.ref t) >>= _) _ _ s)
  simp only [Int.toNat_natCast, ux]
  refine wpAny_bind (wpAny_setField ho hd (by simp) (wpAny_pure ⟨x, rfl, wpAny_pure (q _ ⟨_, Heap.get?_update_self _ ho (Obj.isFreed_of_fields (Obj.data_mapFields hd _)), (Obj.cls_mapFields ..).trans hc, ?_⟩ (Heap.SameBut.update ..))⟩))
  rw [Obj.data_mapFields hd]
  simp [rawInt]
theorem nextT_end {it t : Addr} {i : Nat} {xs : Array Value} {Q : Value → Shared → Prop} (nh : A.handled = none) (ui : s.heap.IsTupleIter it t i) (ut : s.heap.IsTuple t xs) (ux : xs[i]? = none) (q : ∀ h' e, Heap.ExtBut it s.heap h' → (∃ o, h'.get? e = some o ∧ o.cls = .type "StopIteration") → E (.ref e) { s with heap := h' }) : wpAny (model prog w) A (Builtin.SmallTypes.nextOf (.ref it)) Q E s := by
  obtain ⟨o, ho, hc, hd⟩ := id ui
  obtain ⟨p, hp, _, np, dp⟩ := ut
  unfold Builtin.SmallTypes.nextOf
  refine wpAny_bind (wpAny_callSpecial?_slot (name := Str.ofString "__next__") ui.typeIs F.slot_tuple_iterator_next (wpAny_call_entry F.slot_tuple_iterator_next ui.typeIs F.entry_tuple_iterator_next ?_ (F.args_tuple_iterator_next_1 _)))
  refine (wpAny_bind (wpAny_field ho hd (x := .ref t) rfl ?_) : wpAny _ _ (field (.ref it) 0 >>= _) _ _ s)
  refine (?_ : wpAny _ _ (if (Value.ref t == Value.none) = true then _ else _) _ _ s)
  rw [if_neg (fun z => by cases z)]
  refine (wpAny_bind (wpAny_field ho hd (x := .int i 0) rfl ?_) : wpAny _ _ (field (.ref it) 1 >>= _) _ _ s)
  refine (wpAny_bind (wpAny_seqItems hp dp ?_) : wpAny _ _ (seqItems? (.ref t) >>= _) _ _ s)
  simp only [Int.toNat_natCast, ux]
  refine wpAny_bind (wpAny_rule (wpAny_bind (wpAny_setField ho hd (by simp) ?_)))
  refine (wpAny_bind ?_ : wpAny _ _ (newExc (.type "StopIteration") [] >>= _) _ _ _)
  simp only [newExc, newTuple]
  refine wpAny_bind (wpAny_newObj_type (wpAny_bind (m := firstArgMember _ _) (wpAny_of_eq (a := Value.none) (by first | rfl | (simp only [firstArgMember]; rfl)) (wpAny_newObj_type ?_ (by size_fits)))) (by size_fits))
  simp only [raiseNew]
  refine wpAny_bind (wpAny_handled ?_)
  first | rw [show A.in1.handled = none from nh] | rw [nh]
  exact wpAny_bind (wpAny_pure (wpAny_throw (q _ _ (((Heap.SameBut.update ..).extBut.push _).push _) ⟨_, Heap.get?_push_size _ rfl, rfl⟩)))
/-- the turn of an enumerate, whatever it walks: the inner iterator's turn is handed in -/
theorem enumT_item {e it l : Addr} {i : Nat} {xs : Array Value} {x old : Value} {Q : Value → Shared → Prop} (ue : IsEnum s.heap e it i old) (ui : s.heap.IsTupleIter it l i) (ul : s.heap.IsTuple l xs) (ux : xs[i]? = some x) (ne : e ≠ it)
    (q : ∀ h', IsEnumOut h' e it ((i : Int) + 1) x s.heap.objs.size → h'.IsTupleIter it l (i + 1) → h'.get? s.heap.objs.size = some { cls := .type "tuple", data := .seq #[.int i s.toks, x] } → h'.objs.size = s.heap.objs.size + 1 → (∀ b o, b ≠ e → b ≠ it → s.heap.get? b = some o → h'.get? b = some o) → Q (.ref s.heap.objs.size) { s with heap := h', toks := s.toks + 1 }) :
    wpAny (model prog w) A (Builtin.«enumerate.__next__» ⟨[.ref e], []⟩) (fun fin s' => ∃ v, fin = .done (.ret v) ∧ Q v s') E s := by
  obtain ⟨hp, g, d, tk, os⟩ := s
  refine (wpAny_bind (wpAny_field ue rfl (x := .ref it) rfl ?_) : wpAny _ _ (field (.ref e) 2 >>= _) _ _ _)
  refine wpAny_bind (nextT_item ui ul ux fun g1 i1 b1 => ?_)
  replace b1 : Heap.SameBut it hp g1 := b1
  have e1 : IsEnum g1 e it i old := (b1.2 e ne).trans ue
  refine (wpAny_bind (wpAny_field e1 rfl (x := rawInt i) rfl ?_) : wpAny _ _ (field (.ref e) 3 >>= _) _ _ ⟨g1, g, d, tk, os⟩)
  refine (wpAny_bind (wpAny_field e1 rfl (x := .none) rfl ?_) : wpAny _ _ (field (.ref e) 4 >>= _) _ _ ⟨g1, g, d, tk, os⟩)
  refine (wpAny_bind (wpAny_mkInt ?_) : wpAny _ _ (mkInt i >>= _) _ _ ⟨g1, g, d, tk, os⟩)
  refine (wpAny_bind (wpAny_setField_rec e1 (by simp) fun g2 e2 b2 => ?_) : wpAny _ _ (setField (.ref e) 3 (rawInt ((i : Int) + 1)) >>= _) _ _ ⟨g1, g, d, tk + 1, os⟩)
  replace b2 : Heap.SameBut e g1 g2 := b2
  replace e2 : IsEnum g2 e it ((i : Int) + 1) old := e2
  refine (wpAny_bind (wpAny_setField_rec e2 (by simp) fun g3 e3 b3 => ?_) : wpAny _ _ (setField (.ref e) 4 .none >>= _) _ _ ⟨g2, g, d, tk + 1, os⟩)
  replace b3 : Heap.SameBut e g2 g3 := b3
  replace e3 : IsEnum g3 e it ((i : Int) + 1) old := e3
  refine (wpAny_bind (wpAny_newTuple ?_) : wpAny _ _ (newTuple [.int i tk, x] >>= _) _ _ ⟨g3, g, d, tk + 1, os⟩)
  have zz : g3.objs.size = hp.objs.size := by rw [b3.1, b2.1, b1.1]
  have lt : e < hp.objs.size := Heap.lt_size ue
  obtain ⟨g4, w4⟩ : ∃ g4, g4 = g3.push { cls := .type "tuple", data := .seq #[.int i tk, x] } := ⟨_, rfl⟩
  have e4 : IsEnum g4 e it ((i : Int) + 1) old := w4 ▸ Heap.get?_push_of_some _ e3
  have t4 : g4.get? hp.objs.size = some { cls := .type "tuple", data := .seq #[.int i tk, x] } := by
    rw [w4, ← zz]
    exact Heap.get?_push_size _ rfl
  have z4 : g4.objs.size = hp.objs.size + 1 := by rw [w4, Heap.size_push, zz]
  have k4 : ∀ b o, b ≠ e → b ≠ it → hp.get? b = some o → g4.get? b = some o := fun b o n1 n2 h => by
    rw [w4]
    exact Heap.get?_push_of_some _ (b3.extBut b o n1 (b2.extBut b o n1 (b1.extBut b o n2 h)))
  have i4 : g4.IsTupleIter it l (i + 1) := by
    obtain ⟨o, ho, r⟩ := (i1.extBut b2.extBut (Ne.symm ne)).extBut b3.extBut (Ne.symm ne)
    rw [w4]
    exact ⟨o, Heap.get?_push_of_some _ ho, r⟩
  rw [← w4, zz]
  refine (wpAny_bind ?_ : wpAny _ _ (Builtin.SmallTypes.ownedTupleIsFree (.ref e) >>= _) _ _ ⟨g4, g, d, tk + 1, os⟩)
  unfold Builtin.SmallTypes.ownedTupleIsFree
  refine wpAny_bind (wpAny_field e4 rfl (x := .none) rfl (wpAny_pure ?_))
  simp only [if_true]
  refine wpAny_bind (wpAny_rule (wpAny_bind (wpAny_field e4 rfl (x := old) rfl (wpAny_bind (wpAny_setField_rec e4 (by simp) fun g5 e5 b5 => ?_)))))
  replace b5 : Heap.SameBut e g4 g5 := b5
  replace e5 : IsEnum g5 e it ((i : Int) + 1) x := e5
  refine (wpAny_bind ?_ : wpAny _ _ (Builtin.SmallTypes.ownedTupleHandOut (.ref e) (.ref hp.objs.size) >>= _) _ _ ⟨g5, g, d, tk + 1, os⟩)
  unfold Builtin.SmallTypes.ownedTupleHandOut
  refine wpAny_bind (wpAny_setField_rec e5 (by simp) fun g6 e6 b6 => ?_)
  replace b6 : Heap.SameBut e g5 g6 := b6
  replace e6 : IsEnumOut g6 e it ((i : Int) + 1) x hp.objs.size := e6
  refine wpAny_setField_rec e6 (by simp) fun g7 e7 b7 => ?_
  replace b7 : Heap.SameBut e g6 g7 := b7
  replace e7 : IsEnumOut g7 e it ((i : Int) + 1) x hp.objs.size := e7
  have up : ∀ b o, b ≠ e → g4.get? b = some o → g7.get? b = some o := fun b o n h => b7.extBut b o n (b6.extBut b o n (b5.extBut b o n h))
  refine wpAny_bind (wpAny_letGo (wpAny_pure ⟨_, rfl, q g7 e7 ?_ (up _ _ (Nat.ne_of_gt lt) t4) (by rw [b7.1, b6.1, b5.1, z4]) fun b o n1 n2 h => up b o n1 (k4 b o n1 n2 h)⟩))
  obtain ⟨o, ho, r⟩ := i4
  exact ⟨o, up it o (Ne.symm ne) ho, r⟩
theorem nextE_item {e it l : Addr} {i : Nat} {xs : Array Value} {x old : Value} {Q : Option Value → Shared → Prop} (ue : IsEnum s.heap e it i old) (ui : s.heap.IsTupleIter it l i) (ul : s.heap.IsTuple l xs) (ux : xs[i]? = some x) (ne : e ≠ it)
    (q : ∀ h', IsEnumOut h' e it ((i : Int) + 1) x s.heap.objs.size → h'.IsTupleIter it l (i + 1) → h'.get? s.heap.objs.size = some { cls := .type "tuple", data := .seq #[.int i s.toks, x] } → h'.objs.size = s.heap.objs.size + 1 → (∀ b o, b ≠ e → b ≠ it → s.heap.get? b = some o → h'.get? b = some o) → Q (some (.ref s.heap.objs.size)) { s with heap := h', toks := s.toks + 1 }) :
    wpAny (model prog w) A (pyNext (.ref e)) Q E s := by
  have ty : s.TypeIs (.ref e) "enumerate" := ⟨_, ue, rfl⟩
  unfold pyNext
  exact wpAny_bind (wpAny_attempt (wpAny_callSpecial?_slot (name := Str.ofString "__next__") ty F.slot_enumerate_next (wpAny_call_entry F.slot_enumerate_next ty F.entry_enumerate_next (enumT_item ue ui ul ux ne fun h' a b c d k => wpAny_pure (q h' a b c d k)) (F.args_enumerate_next_1 _))))
theorem nextE_end {e it l : Addr} {i : Nat} {xs : Array Value} {old : Value} {Q : Option Value → Shared → Prop} (nh : A.handled = none) (ue : IsEnum s.heap e it i old) (ui : s.heap.IsTupleIter it l i) (ul : s.heap.IsTuple l xs) (ux : xs[i]? = none) (q : ∀ h', Heap.ExtBut it s.heap h' → Q none { s with heap := h' }) : wpAny (model prog w) A (pyNext (.ref e)) Q E s := by
  have ty : s.TypeIs (.ref e) "enumerate" := ⟨_, ue, rfl⟩
  unfold pyNext
  refine wpAny_bind (wpAny_attempt (wpAny_callSpecial?_slot (name := Str.ofString "__next__") ty F.slot_enumerate_next (wpAny_call_entry F.slot_enumerate_next ty F.entry_enumerate_next ?_ (F.args_enumerate_next_1 _))))
  refine (wpAny_bind (wpAny_field ue rfl (x := .ref it) rfl ?_) : wpAny _ _ (field (.ref e) 2 >>= _) _ _ _)
  refine wpAny_bind (nextT_end nh ui ul ux fun h' y b ⟨o, ho, hc⟩ => ?_)
  exact wpAny_bind (wpAny_isInstance (T := "StopIteration") (b := true) ⟨o, ho, hc⟩ isSubtype_stop (wpAny_pure (q _ b)))
theorem callE_tup {l : Addr} {xs : Array Value} {Q : Value → Shared → Prop} (ul : s.heap.IsTuple l xs)
    (q : ∀ h', IsEnum h' (s.heap.objs.size + 1) s.heap.objs.size 0 .none → h'.IsTupleIter s.heap.objs.size l 0 → h'.objs.size = s.heap.objs.size + 2 → (∀ b o, s.heap.get? b = some o → h'.get? b = some o) → Q (.ref (s.heap.objs.size + 1)) { s with heap := h' }) :
    wpAny (model prog w) A (call (.type "enumerate") [.ref l]) Q E s := by
  obtain ⟨⟨c, dd, dt, ss⟩, hl, hc, k, hd⟩ := ul
  obtain rfl : c = .type "tuple" := hc
  obtain rfl : dt = .seq xs k := hd
  refine callType_new F.called_enumerate (by decide) (F.typeCall_enumerate_1 _) (F.newCall_enumerate_1 _) (fun obj => F.args_object_init_2 obj _) F.entry_enumerate_new (enumT_new l xs k dd ss) ⟨hl, ?_⟩
  have z1 : (s.heap.push (itO l)).objs.size = s.heap.objs.size + 1 := Heap.size_push ..
  refine (?_ : _ ∧ _)
  rw [z1]
  have e2 : IsEnum ((s.heap.push (itO l)).push (enO s.heap.objs.size)) (s.heap.objs.size + 1) s.heap.objs.size 0 .none := z1 ▸ Heap.get?_push_size (s.heap.push (itO l)) (o := enO s.heap.objs.size) rfl
  exact ⟨⟨_, e2, rfl⟩, q _ e2 ⟨_, Heap.get?_push_of_some _ (Heap.get?_push_size _ rfl), rfl, rfl⟩ (by rw [Heap.size_push, z1]) fun b o y => Heap.get?_push_of_some _ (Heap.get?_push_of_some _ y)⟩
end
def ItnT (K : PySem.W.Frag) (a : Addr) : It :=
  ⟨fun i H => ∃ xs x, SqT K H a xs ∧ xs[i]? = some x, fun i H x H' => ∃ t y, x = .ref t ∧ New H t (.tup [.int ((i : Nat) : Int), y]) H' ∧ ∀ xs, SqT K H a xs → xs[i]? = some y, fun i H => ∃ xs, SqT K H a xs ∧ xs.length ≤ i⟩
theorem tupIs {h : Heap} {a : Addr} {xs : Array Value} (p : IsTup h a xs) : h.IsTuple a xs := by
  obtain ⟨o, ho, hc, n, hd⟩ := p
  exact ⟨o, ho, hc, n, hd⟩
theorem turn_enumT {P : Program} {w : World} {K : PySem.W.Frag} {elts : List Expr} {x1 : Nat} {tp : Pos} (a e it : Addr) (hne : e ≠ it) : Turn P w K (.Tuple elts x1 tp) (ItnT K a) [e, it] e (fun i h => (∃ old, IsEnum h e it ((i : Nat) : Int) old) ∧ h.IsTupleIter it a i) where
  mem := by simp
  obj := fun i h st b hb => by
    obtain ⟨⟨old, st⟩, o, ho, c, d⟩ := st
    rcases List.mem_cons.mp hb with rfl | hb
    · exact ⟨_, st, fun v z => by cases z⟩
    · obtain rfl := List.mem_singleton.mp hb
      exact ⟨o, ho, fun v z => by rw [d] at z; cases z⟩
  keep := fun i h h' ⟨⟨old, st⟩, o, ho, r⟩ k => ⟨⟨old, k e (by simp) _ st⟩, o, k it (by simp) o ho, r⟩
  item := by
    intro X hP hw hK hc i pins s σ H E I hf st hg
    subst hP hw hK
    obtain ⟨xs, x, hq, hx⟩ := hg
    obtain ⟨its, rv, p, hz⟩ := I.tuple hq
    obtain ⟨u, hu, ru⟩ := rv.get hx
    obtain ⟨⟨old, st1⟩, st2⟩ := st
    have fa := I.fpOk (Nat.le_refl _) (I.hok.fresh (Nat.le_refl _))
    have he : s.heap.objs.size ≠ e := Nat.ne_of_gt (Heap.lt_size st1)
    have hi : s.heap.objs.size ≠ it := by
      obtain ⟨o, ho, _⟩ := st2
      exact Nat.ne_of_gt (Heap.lt_size ho)
    refine nextE_item st1 st2 (tupIs p) (x := u) (by simpa using hu) hne fun h' st' it' ht hz' hk => ⟨.ref s.heap.objs.size, rfl, ?_⟩
    refine wpAny_letOwnedTupleGo_enum st' fun h2 st3 sb => ?_
    replace sb : Heap.SameBut e h' h2 := sb
    have I1 : Inv X pins σ H { s with heap := h2, toks := s.toks + 1 } := I.turnedL (fp := [e, it]) (fun b o hb q => (sb.2 b (fun z => hb (by simp [z]))).trans (hk b o (fun z => hb (by simp [z])) (fun z => hb (by simp [z])) q)) hf
    have ht2 : h2.get? s.heap.objs.size = some { cls := .type "tuple", data := .seq #[.int ((i : Nat) : Int) s.toks, u] } := (sb.2 _ he).trans ht
    have new : ObjOk X.prog X.w (upd H s.heap.objs.size (.tup [.int ((i : Nat) : Int), x])) h2 s.heap.objs.size (.tup [.int ((i : Nat) : Int), x]) := ⟨by show 2 ≤ sizeLine; decide, [.int ((i : Nat) : Int) s.toks, u], .cons ⟨_, rfl⟩ (.cons ru .nil), _, ht2, rfl, _, rfl⟩
    have I2 := I1.adoptA fa I.sz new
    have nw := New.mk' (o := .tup [.int ((i : Nat) : Int), x]) fa.1
    refine ⟨.ref s.heap.objs.size, _, I2, rfl, ⟨_, x, rfl, nw, fun ys hy => by rw [I.tuple_inj hy hq]; exact hx⟩, ⟨⟨_, st3⟩, ?_⟩, fun b hb => ?_⟩
    · obtain ⟨o, ho, r⟩ := it'
      exact ⟨o, (sb.2 it (Ne.symm hne)).trans ho, r⟩
    · rw [upd_ne (fun z => ?_)]
      · exact (hf b hb).1
      · rcases List.mem_cons.mp hb with w | w
        · exact he (z.symm.trans w)
        · exact hi (z.symm.trans (List.mem_singleton.mp w))
  done := by
    intro X hP hw hK hc i pins s σ H E I hf st hg
    subst hP hw hK
    obtain ⟨xs, hq, hx⟩ := hg
    obtain ⟨its, rv, p, hz⟩ := I.tuple hq
    obtain ⟨⟨old, st1⟩, st2⟩ := st
    have hl := rv.length
    exact nextE_end (I.ok.hd hc) st1 st2 (tupIs p) (by simp; omega) fun h' eb => ⟨rfl, I.turnedL (fp := [e, it]) (t' := s.toks) (fun b o hb q => eb b o (fun z => hb (by simp [z])) q) hf⟩
  self := fun _ _ _ _ _ ⟨⟨_, st⟩, _⟩ h => wpAny_pyIter_enum st h
/-- enumerate of a list or a tuple -/
def iEnumA (K : PySem.W.Frag) (ta : TA) : TI := fun σ H R => ta σ H fun vs H1 => ∃ a xs, vs = [.ref a] ∧ (SqL K H1 a xs ∧ R (Itn K a) H1 ∨ SqT K H1 a xs ∧ R (ItnT K a) H1)
section
variable {X : Cx} {elts : List Expr} {x1 : Nat} {tp : Pos}
theorem pi_enumA {e : Expr} {ta : TA} {p pos : Pos} (hg : Gl X "enumerate") (hm : X.mg "enumerate" = none) (ha : PA X [e] ta) (hp : plainE e = true) : PI X (.Tuple elts x1 tp) (.Call (.Name "enumerate" p) [e] [] pos) (iEnumA X.K ta) := by
  intro pins s σ H R I h
  have hs : starEach [e] X.env = [(false, eval e X.env)] := star_plain hp
  refine Call_ (ld_blt I hg hm boot_enumerate (PyProof.Rows.callWith_type1 (thn (ha pos pins s σ H _ I h) fun us s1 ⟨vs, H1, I1, r1, q1⟩ => ?_) hs rfl))
  obtain ⟨a, xs, e1, hq⟩ := q1
  subst e1
  obtain ⟨u, rfl, ru⟩ := Vals.one r1
  cases ru
  rcases hq with ⟨hq, q⟩ | ⟨hq, q⟩
  · obtain ⟨its, rv, pl, hz⟩ := I1.list hq
    refine call_enumerate_list pl.isList fun h' he hit hsz hk => ?_
    have I2 : Inv X pins σ H1 { s1 with heap := h' } := I1.kept (t' := s1.toks) fun b o e => hk b o e
    refine wpAny_pyIter_enum (s := { s1 with heap := h' }) he ?_
    refine ⟨s1.heap.objs.size + 1, [s1.heap.objs.size + 1, s1.heap.objs.size], _, _, H1, rfl, I2, turn_enum a _ _ (Nat.ne_of_gt (Nat.lt_succ_self _)), ⟨⟨_, he⟩, hit⟩, fun b hb => ?_, q⟩
    rcases List.mem_cons.mp hb with rfl | hb
    · exact I1.fpOk (Nat.le_succ _) (I1.hok.fresh (Nat.le_succ _))
    · obtain rfl := List.mem_singleton.mp hb
      exact I1.fpOk (Nat.le_refl _) (I1.hok.fresh (Nat.le_refl _))
  · obtain ⟨its, rv, pl, hz⟩ := I1.tuple hq
    refine callE_tup (tupIs pl) fun h' he hit hsz hk => ?_
    have I2 : Inv X pins σ H1 { s1 with heap := h' } := I1.kept (t' := s1.toks) fun b o e => hk b o e
    refine wpAny_pyIter_enum (s := { s1 with heap := h' }) he ?_
    refine ⟨s1.heap.objs.size + 1, [s1.heap.objs.size + 1, s1.heap.objs.size], _, _, H1, rfl, I2, turn_enumT a _ _ (Nat.ne_of_gt (Nat.lt_succ_self _)), ⟨⟨_, he⟩, hit⟩, fun b hb => ?_, q⟩
    rcases List.mem_cons.mp hb with rfl | hb
    · exact I1.fpOk (Nat.le_succ _) (I1.hok.fresh (Nat.le_succ _))
    · obtain rfl := List.mem_singleton.mp hb
      exact I1.fpOk (Nat.le_refl _) (I1.hok.fresh (Nat.le_refl _))
theorem q_ienumA {K : PySem.W.Frag} {e : Expr} {t : TA} {p pos : Pos} (ha : QA X [e] t) (s : X.K = K ∧ X.mg "enumerate" = none ∧ Gl X "enumerate" ∧ plainE e = true) : QI X (.Tuple elts x1 tp) (.Call (.Name "enumerate" p) [e] [] pos) (iEnumA K t) := by
  obtain ⟨rfl, hm, hg, hp⟩ := s
  exact ⟨pi_enumA hg hm ha.h hp⟩
end
theorem for_enumT {K : PySem.W.Frag} {a : Addr} {xs : List V} {g : TG} {tb : TS} {D : Ends} {σ : St} {H : Hp} (Pv : Nat → St → Hp → Prop) (h0 : Pv 0 σ H) (hl : ∀ i σ H, i ≤ xs.length → Pv i σ H → SqT K H a xs)
    (hs : ∀ i x t σ H H', xs[i]? = some x → Pv i σ H → New H t (.tup [.int ((i : Nat) : Int), x]) H' → g (.ref t) σ H' fun σ2 H2 => tb { D with nx := Pv (i + 1), ct := Pv (i + 1), bk := D.nx } σ2 H2) (hd : ∀ σ H, Pv xs.length σ H → D.nx σ H) :
    ∃ W : Nat → Nat → St → Hp → Prop, (∃ m, W 0 m σ H) ∧ ∀ i m σ H, W i m σ H →
      ((ItnT K a).stop i H ∧ D.nx σ H) ∨ ((ItnT K a).go i H ∧ ∃ N : St → Hp → Prop, (∀ σ' H', N σ' H' → ∃ m', m' < m ∧ W (i + 1) m' σ' H') ∧ ∀ x H', (ItnT K a).yld i H x H' → g x σ H' fun σ2 H2 => tb { D with nx := N, ct := N, bk := D.nx } σ2 H2) := by
  refine ⟨fun i m σ H => m = xs.length - i ∧ i ≤ xs.length ∧ Pv i σ H, ⟨xs.length, by simp, Nat.zero_le _, h0⟩, ?_⟩
  rintro i m σ H ⟨rfl, hi, p⟩
  have q := hl i σ H hi p
  by_cases hlt : i < xs.length
  · refine .inr ⟨⟨xs, xs[i], q, by simp [hlt]⟩, Pv (i + 1), fun σ' H' p' => ⟨xs.length - (i + 1), by omega, rfl, hlt, p'⟩, ?_⟩
    rintro x H' ⟨t, y, rfl, nw, hy⟩
    exact hs i y t σ H H' (hy xs q) p nw
  · have e : i = xs.length := by omega
    subst e
    exact .inl ⟨⟨xs, q, Nat.le_refl _⟩, hd σ H p⟩
end L2

set_option Elab.async false
set_option linter.all false
set_option maxRecDepth 100000
namespace L2
open PySem PySem.Spec PyProof.Rows
/-! ### data without lists: it stays where tuples stay -/
def KTu (H H' : Hp) : Prop := ∀ b xs, H b = some (.tup xs) → H' b = some (.tup xs)
theorem KTu.refl (H : Hp) : KTu H H := fun _ _ e => e
theorem KTu.trans {H H1 H2 : Hp} (a : KTu H H1) (b : KTu H1 H2) : KTu H H2 := fun _ _ e => b _ _ (a _ _ e)
theorem Same.kt' {H H' : Hp} (s : Same H H') : KTu H H' := fun _ _ e => s _ _ e
theorem kt_upd {H : Hp} {p : Addr} {xs ys : List V} (hp : H p = some (.lst xs)) : KTu H (upd H p (.lst ys)) := fun b zs e => by
  rw [upd_ne (fun z => by rw [z, hp] at e; cases e)]
  exact e
mutual
inductive DT (H : Hp) : V → PyData → Prop
  | non : DT H .non .none
  | bl (b : Bool) : DT H (.bl b) (.bool b)
  | int (i : Int) : DT H (.int i) (.int i)
  | str (x : Str) : DT H (.str x) (.str x)
  | tup {a : Addr} {xs : List V} {ds : List PyData} : H a = some (.tup xs) → DTs H xs ds → DT H (.ref a) (.tuple ds)
inductive DTs (H : Hp) : List V → List PyData → Prop
  | nil : DTs H [] []
  | cons {x : V} {xs : List V} {d : PyData} {ds : List PyData} : DT H x d → DTs H xs ds → DTs H (x :: xs) (d :: ds)
end
mutual
theorem DT.dat {H : Hp} : ∀ {x : V} {d : PyData}, DT H x d → Dat H x d
  | _, _, .non => .non
  | _, _, .bl b => .bl b
  | _, _, .int i => .int i
  | _, _, .str x => .str x
  | _, _, .tup h r => .tup h r.dats
theorem DTs.dats {H : Hp} : ∀ {xs : List V} {ds : List PyData}, DTs H xs ds → Dats H xs ds
  | _, _, .nil => .nil
  | _, _, .cons a b => .cons a.dat b.dats
end
mutual
theorem DT.kt {H H' : Hp} (s : KTu H H') : ∀ {x : V} {d : PyData}, DT H x d → DT H' x d
  | _, _, .non => .non
  | _, _, .bl b => .bl b
  | _, _, .int i => .int i
  | _, _, .str x => .str x
  | _, _, .tup h r => .tup (s _ _ h) (r.kt s)
theorem DTs.kt {H H' : Hp} (s : KTu H H') : ∀ {xs : List V} {ds : List PyData}, DTs H xs ds → DTs H' xs ds
  | _, _, .nil => .nil
  | _, _, .cons a b => .cons (a.kt s) (b.kt s)
end
theorem DT.keep {H H' : Hp} {x : V} {d : PyData} (h : DT H x d) (s : Same H H') : DT H' x d := h.kt s.kt'
theorem DTs.keep {H H' : Hp} {xs : List V} {ds : List PyData} (h : DTs H xs ds) (s : Same H H') : DTs H' xs ds := h.kt s.kt'
theorem DT.rep {K : PySem.W.Frag} {H : Hp} {x : V} {d : PyData} (h : DT H x d) : Rep K H x d := h.dat.rep
theorem DTs.reps {K : PySem.W.Frag} {H : Hp} {xs : List V} {ds : List PyData} (h : DTs H xs ds) : Reps K H xs ds := h.dats.reps
theorem DTs.length {H : Hp} {xs : List V} {ds : List PyData} (h : DTs H xs ds) : xs.length = ds.length := h.dats.length
theorem DTs.get {H : Hp} : ∀ {xs : List V} {ds : List PyData} {i : Nat} {x : V}, DTs H xs ds → xs[i]? = some x → ∃ d, ds[i]? = some d ∧ DT H x d
  | _, _, 0, _, .cons a b, e => by simp at e; subst e; exact ⟨_, rfl, a⟩
  | _, _, i + 1, _, .cons a b, e => by
    rw [List.getElem?_cons_succ] at e ⊢
    exact b.get e
theorem DTs.at {H : Hp} : ∀ {xs : List V} {ds : List PyData} {i : Nat} {d : PyData}, DTs H xs ds → ds[i]? = some d → ∃ x, xs[i]? = some x ∧ DT H x d
  | _, _, 0, _, .cons a b, e => by simp at e; subst e; exact ⟨_, rfl, a⟩
  | _, _, i + 1, _, .cons a b, e => by
    rw [List.getElem?_cons_succ] at e ⊢
    exact b.at e
theorem DTs.append {H : Hp} : ∀ {xs ys : List V} {ds es : List PyData}, DTs H xs ds → DTs H ys es → DTs H (xs ++ ys) (ds ++ es)
  | _, _, _, _, .nil, h => h
  | _, _, _, _, .cons a b, h => .cons a (b.append h)
theorem DTs.snoc {H : Hp} {xs : List V} {ds : List PyData} {x : V} {d : PyData} (h : DTs H xs ds) (e : DT H x d) : DTs H (xs ++ [x]) (ds ++ [d]) := h.append (.cons e .nil)
theorem DT.tupI {H : Hp} {x : V} {ds : List PyData} (h : DT H x (.tuple ds)) : ∃ a xs, x = .ref a ∧ H a = some (.tup xs) ∧ DTs H xs ds := by
  cases h with
  | tup h r => exact ⟨_, _, rfl, h, r⟩
theorem DT.intI {H : Hp} {x : V} {i : Int} (h : DT H x (.int i)) : x = .int i := by cases h; rfl
theorem DT.strI {H : Hp} {x : V} {i : Str} (h : DT H x (.str i)) : x = .str i := by cases h; rfl
theorem DT.nonI {H : Hp} {x : V} (h : DT H x .none) : x = .non := by cases h; rfl
theorem DTs.ints {H : Hp} : ∀ ns : List Int, DTs H (ns.map V.int) (ns.map PyData.int)
  | [] => .nil
  | n :: ns => .cons (.int n) (DTs.ints ns)
theorem DTs.one {H : Hp} {x : V} {d : PyData} (h : DT H x d) : DTs H [x] [d] := .cons h .nil
/-- a tuple with three parts -/
theorem DT.three {H : Hp} {x : V} {d e f : PyData} (h : DT H x (.tuple [d, e, f])) : ∃ a u v w, x = .ref a ∧ H a = some (.tup [u, v, w]) ∧ DT H u d ∧ DT H v e ∧ DT H w f := by
  obtain ⟨a, xs, rfl, ha, r⟩ := h.tupI
  cases r with
  | cons r1 r => cases r with
    | cons r2 r => cases r with
      | cons r3 r => cases r; exact ⟨a, _, _, _, rfl, ha, r1, r2, r3⟩
theorem DT.two {H : Hp} {x : V} {d e : PyData} (h : DT H x (.tuple [d, e])) : ∃ a u v, x = .ref a ∧ H a = some (.tup [u, v]) ∧ DT H u d ∧ DT H v e := by
  obtain ⟨a, xs, rfl, ha, r⟩ := h.tupI
  cases r with
  | cons r1 r => cases r with
    | cons r2 r => cases r; exact ⟨a, _, _, rfl, ha, r1, r2⟩
theorem New.tup {H H' : Hp} {a : Addr} {xs : List V} {ds : List PyData} (n : New H a (.tup xs) H') (h : DTs H xs ds) : DT H' (.ref a) (.tuple ds) := .tup n.2.2 (h.keep n.2.1)
/-! ### comprehensions with a tuple target whose elements make things -/
theorem comp_RT {J : It} {D : Addr} {σ0 : St} {g : TG} {tc : TT} {te : TE} {Q : VK} {H1 : Hp} (xs : List V) (R : Nat → List V → Hp → Prop) (hD : H1 D = none) (hn : xs.length ≤ 1000000)
    (hgo : ∀ (i : Nat) x H, Same H1 H → xs[i]? = some x → J.go i H) (hst : ∀ H, Same H1 H → J.stop xs.length H) (hy : ∀ (i : Nat) x H H', Same H1 H → i < xs.length → J.yld i H x H' → H' = H ∧ xs[i]? = some x)
    (h0 : ∀ H, Same H1 H → R 0 [] H) (hlen : ∀ i ys H, R i ys H → ys.length ≤ i) (hu : ∀ i ys H zs us, R i ys H → H D = some (.lst zs) → R i ys (upd H D (.lst us)))
    (he : ∀ (i : Nat) x H ys (Qy : VK) (Qn : Hp → Prop), xs[i]? = some x → Same H1 H → R i ys H → (∀ H' y, Same H H' → R (i + 1) (ys ++ [y]) H' → Qy y H') → (∀ H', Same H H' → R (i + 1) ys H' → Qn H') → g x σ0 H fun σ2 H2 => keepSt σ0 σ2 ∧ tc σ2 H2 fun b H3 => if b = true then te σ2 H3 Qy else Qn H3)
    (hq : ∀ H' ys, Same H1 H' → R xs.length ys H' → H' D = some (.lst ys) → Q (.ref D) H') :
    ∃ W : Nat → Nat → Hp → Prop, (∃ m, W 0 m (upd H1 D (.lst []))) ∧ compWT J D σ0 g tc te Q W := by
  have hs : (1000000 : Nat) < sizeLine := by decide
  refine ⟨fun i m H => m = xs.length - i ∧ i ≤ xs.length ∧ Same H1 H ∧ ∃ ys, R i ys H ∧ H D = some (.lst ys), ⟨xs.length, by simp, Nat.zero_le _, same_new hD, [], h0 _ (same_new hD), upd_same⟩, ?_⟩
  rintro i m H ⟨rfl, hi, sm, ys, hR, hd⟩
  by_cases hlt : i < xs.length
  · refine .inr ⟨hgo i xs[i] H sm (by simp [hlt]), fun x H' y => ?_⟩
    obtain ⟨e, ex⟩ := hy i x H H' sm hlt y
    subst e
    have hl := hlen i ys _ hR
    refine he i x _ ys _ _ ex sm hR (fun H2 z s2 hf => ?_) (fun H2 s2 hf => ?_)
    · exact ⟨_, s2 _ _ hd, by omega, xs.length - (i + 1), by omega, rfl, hlt, Same.updD hD (sm.trans s2), ys ++ [z], hu _ _ _ _ _ hf (s2 _ _ hd), upd_same⟩
    · exact ⟨xs.length - (i + 1), by omega, rfl, hlt, sm.trans s2, ys, hf, s2 _ _ hd⟩
  · have e : i = xs.length := by omega
    subst e
    exact .inl ⟨hst H sm, hq H ys sm hR hd⟩
theorem take_fmD {f : PyData → Option PyData} {ds : List PyData} {i : Nat} {d : PyData} (ex : ds[i]? = some d) : (ds.take (i + 1)).filterMap f = (ds.take i).filterMap f ++ (f d).toList := by
  rw [List.take_add_one, ex, List.filterMap_append]
  have : List.filterMap f [d] = (f d).toList := by cases h : f d <;> simp [h]
  exact congrArg _ this
section
variable {K : PySem.W.Frag} {J : It} {a D : Addr} {σ0 : St} {i0 : Nat} {g : TG} {tc : TT} {te : TE} {Q : VK} {H1 : Hp} {xs : List V} {ds : List PyData}
theorem comp_DT (f : PyData → Option PyData) (hD : H1 D = none) (hn : xs.length ≤ 1000000) (hd : DTs H1 xs ds)
    (hgo : ∀ (i : Nat) x H, Same H1 H → xs[i]? = some x → J.go i H) (hst : ∀ H, Same H1 H → J.stop xs.length H) (hy : ∀ (i : Nat) x H H', Same H1 H → i < xs.length → J.yld i H x H' → H' = H ∧ xs[i]? = some x)
    (he : ∀ (i : Nat) x d H (Qy : VK) (Qn : Hp → Prop), ds[i]? = some d → DT H x d → Same H1 H → (∀ H' y e, Same H H' → f d = some e → DT H' y e → Qy y H') → (∀ H', Same H H' → f d = none → Qn H') → tc (σ0.set i0 (some x)) H fun b H3 => if b = true then te (σ0.set i0 (some x)) H3 Qy else Qn H3)
    (hq : ∀ H' ys, Same H1 H' → DTs H' ys (ds.filterMap f) → H' D = some (.lst ys) → Q (.ref D) H') :
    ∃ W : Nat → Nat → Hp → Prop, (∃ m, W 0 m (upd H1 D (.lst []))) ∧ compW J D σ0 i0 tc te Q W := by
  refine comp_R xs (fun i ys H => DTs H ys ((ds.take i).filterMap f)) hD hn hgo hst hy (fun _ _ => .nil) (fun i ys H h => ?_) (fun i ys H zs us h e => h.kt (kt_upd e)) (fun i x H ys Qy Qn ex sm hR h1 h2 => ?_) fun H' ys s hR e => hq H' ys s (by rw [hd.length, List.take_length] at hR; exact hR) e
  · rw [h.length]
    exact Nat.le_trans (List.length_filterMap_le _ _) (by simp; omega)
  · obtain ⟨d, ed, hx⟩ := hd.get ex
    have tf := take_fmD (f := f) ed
    refine he i x d H Qy Qn ed (hx.keep sm) sm (fun H' y e s' fe de => h1 H' y s' ?_) fun H' s' fe => h2 H' s' ?_
    · rw [tf, fe]
      exact (hR.keep s').snoc de
    · rw [tf, fe]
      simpa using hR.keep s'
theorem comp_DTT (f : PyData → Option PyData) (hD : H1 D = none) (hn : xs.length ≤ 1000000) (hd : DTs H1 xs ds)
    (hgo : ∀ (i : Nat) x H, Same H1 H → xs[i]? = some x → J.go i H) (hst : ∀ H, Same H1 H → J.stop xs.length H) (hy : ∀ (i : Nat) x H H', Same H1 H → i < xs.length → J.yld i H x H' → H' = H ∧ xs[i]? = some x)
    (he : ∀ (i : Nat) x d H (Qy : VK) (Qn : Hp → Prop), ds[i]? = some d → DT H x d → Same H1 H → (∀ H' y e, Same H H' → f d = some e → DT H' y e → Qy y H') → (∀ H', Same H H' → f d = none → Qn H') → g x σ0 H fun σ2 H2 => keepSt σ0 σ2 ∧ tc σ2 H2 fun b H3 => if b = true then te σ2 H3 Qy else Qn H3)
    (hq : ∀ H' ys, Same H1 H' → DTs H' ys (ds.filterMap f) → H' D = some (.lst ys) → Q (.ref D) H') :
    ∃ W : Nat → Nat → Hp → Prop, (∃ m, W 0 m (upd H1 D (.lst []))) ∧ compWT J D σ0 g tc te Q W := by
  refine comp_RT xs (fun i ys H => DTs H ys ((ds.take i).filterMap f)) hD hn hgo hst hy (fun _ _ => .nil) (fun i ys H h => ?_) (fun i ys H zs us h e => h.kt (kt_upd e)) (fun i x H ys Qy Qn ex sm hR h1 h2 => ?_) fun H' ys s hR e => hq H' ys s (by rw [hd.length, List.take_length] at hR; exact hR) e
  · rw [h.length]
    exact Nat.le_trans (List.length_filterMap_le _ _) (by simp; omega)
  · obtain ⟨d, ed, hx⟩ := hd.get ex
    have tf := take_fmD (f := f) ed
    refine he i x d H Qy Qn ed (hx.keep sm) sm (fun H' y e s' fe de => h1 H' y s' ?_) fun H' s' fe => h2 H' s' ?_
    · rw [tf, fe]
      exact (hR.keep s').snoc de
    · rw [tf, fe]
      simpa using hR.keep s'
theorem comp_tD (f : PyData → Option PyData) (hD : H1 D = none) (hl : SqT K H1 a xs) (hn : xs.length ≤ 1000000) (hd : DTs H1 xs ds)
    (he : ∀ (i : Nat) x d H (Qy : VK) (Qn : Hp → Prop), ds[i]? = some d → DT H x d → Same H1 H → (∀ H' y e, Same H H' → f d = some e → DT H' y e → Qy y H') → (∀ H', Same H H' → f d = none → Qn H') → tc (σ0.set i0 (some x)) H fun b H3 => if b = true then te (σ0.set i0 (some x)) H3 Qy else Qn H3)
    (hq : ∀ H' ys, Same H1 H' → DTs H' ys (ds.filterMap f) → H' D = some (.lst ys) → Q (.ref D) H') : ∃ W : Nat → Nat → Hp → Prop, (∃ m, W 0 m (upd H1 D (.lst []))) ∧ compW (Itt K a) D σ0 i0 tc te Q W :=
  comp_DT f hD hn hd (fun i x H s e => ⟨xs, x, s.seqT hl, e⟩) (fun H s => ⟨xs, s.seqT hl, Nat.le_refl _⟩) (fun i x H H' s _ y => ⟨y.1, y.2 xs (s.seqT hl)⟩) he hq
theorem comp_lDT (f : PyData → Option PyData) (hD : H1 D = none) (hl : SqL K H1 a xs) (hn : xs.length ≤ 1000000) (hd : DTs H1 xs ds)
    (he : ∀ (i : Nat) x d H (Qy : VK) (Qn : Hp → Prop), ds[i]? = some d → DT H x d → Same H1 H → (∀ H' y e, Same H H' → f d = some e → DT H' y e → Qy y H') → (∀ H', Same H H' → f d = none → Qn H') → g x σ0 H fun σ2 H2 => keepSt σ0 σ2 ∧ tc σ2 H2 fun b H3 => if b = true then te σ2 H3 Qy else Qn H3)
    (hq : ∀ H' ys, Same H1 H' → DTs H' ys (ds.filterMap f) → H' D = some (.lst ys) → Q (.ref D) H') : ∃ W : Nat → Nat → Hp → Prop, (∃ m, W 0 m (upd H1 D (.lst []))) ∧ compWT (Itl K a) D σ0 g tc te Q W :=
  comp_DTT f hD hn hd (fun i x H s e => ⟨xs, x, s.seq hl, e⟩) (fun H s => ⟨xs, s.seq hl, Nat.le_refl _⟩) (fun i x H H' s _ y => ⟨y.1, y.2 xs (s.seq hl)⟩) he hq
end
end L2

set_option Elab.async false
set_option linter.all false
set_option maxRecDepth 100000
namespace L2
open PySem PySem.Spec PyProof.Rows
/-! ### states of lines, told as data; lists of lists -/
abbrev Wd := Option (List Int)
def wD : Wd → PyData
  | none => .none
  | some ns => .tuple (ns.map PyData.int)
abbrev C2 := Str × Wd
def c2D (c : C2) : PyData := .tuple [.str c.1, wD c.2]
abbrev R3 := Nat × Str × Wd
def r3D (r : R3) : PyData := .tuple [.int ((r.1 : Nat) : Int), .str r.2.1, wD r.2.2]
def hB (c : C2) : Bool := decide (c.1 = "reader" ∨ c.1 = "writer") || (decide (c.1 = "wants write") && c.2.isSome)
theorem DT.wNon {H : Hp} {x : V} {w : Wd} (h : DT H x (wD w)) : decide (x = V.non) = !w.isSome := by
  cases w with
  | none => cases h; rfl
  | some ns => obtain ⟨a, xs, rfl, _⟩ := h.tupI; rfl
theorem iteS {a b : Str} {A B : Prop} (h1 : a = b → A) (h2 : a ≠ b → B) : if decide (V.str a = V.str b) = true then A else B := by
  by_cases h : a = b
  · rw [if_pos (decide_eq_true (by rw [h]))]
    exact h1 h
  · rw [if_neg (fun z => h (by injection of_decide_eq_true z))]
    exact h2 h
theorem in2 {k a b : Str} : inV (.str k) [.str a, .str b] = decide (k = a ∨ k = b) := by
  unfold inV
  rw [Bool.eq_iff_iff]
  simp only [List.any_cons, List.any_nil, eqV, Bool.or_false, Bool.or_eq_true, beq_iff_eq, decide_eq_true_eq]
  exact ⟨fun h => h.imp Eq.symm Eq.symm, fun h => h.imp Eq.symm Eq.symm⟩
/-- kind in (a, b) or (kind == c and words is not None) -/
theorem iteNo {a b : Str} {A B : Prop} (h1 : a ≠ b → A) (h2 : a = b → B) : if (!decide (V.str a = V.str b)) = true then A else B := by
  by_cases h : a = b
  · rw [decide_eq_true (by rw [h])]
    exact iteF (h2 h)
  · rw [decide_eq_false (fun z => h (by injection z))]
    exact iteT (h1 h)
/-! ### a list under way is there while its elements are made -/
theorem comp_RD {J : It} {D : Addr} {σ0 : St} {i0 : Nat} {tc : TT} {te : TE} {Q : VK} {H1 : Hp} (xs : List V) (R : Nat → List V → Hp → Prop) (hD : H1 D = none) (hn : xs.length ≤ 1000000)
    (hgo : ∀ (i : Nat) x H, Same H1 H → xs[i]? = some x → J.go i H) (hst : ∀ H, Same H1 H → J.stop xs.length H) (hy : ∀ (i : Nat) x H H', Same H1 H → i < xs.length → J.yld i H x H' → H' = H ∧ xs[i]? = some x)
    (h0 : R 0 [] (upd H1 D (.lst []))) (hlen : ∀ i ys H, R i ys H → ys.length ≤ i) (hu : ∀ i ys H zs us, R i ys H → H D = some (.lst zs) → R i ys (upd H D (.lst us)))
    (he : ∀ (i : Nat) x H ys (Qy : VK) (Qn : Hp → Prop), xs[i]? = some x → Same H1 H → H D = some (.lst ys) → R i ys H → (∀ H' y, Same H H' → R (i + 1) (ys ++ [y]) H' → Qy y H') → (∀ H', Same H H' → R (i + 1) ys H' → Qn H') → tc (σ0.set i0 (some x)) H fun b H3 => if b = true then te (σ0.set i0 (some x)) H3 Qy else Qn H3)
    (hq : ∀ H' ys, Same H1 H' → R xs.length ys H' → H' D = some (.lst ys) → Q (.ref D) H') :
    ∃ W : Nat → Nat → Hp → Prop, (∃ m, W 0 m (upd H1 D (.lst []))) ∧ compW J D σ0 i0 tc te Q W := by
  have hs : (1000000 : Nat) < sizeLine := by decide
  refine ⟨fun i m H => m = xs.length - i ∧ i ≤ xs.length ∧ Same H1 H ∧ ∃ ys, R i ys H ∧ H D = some (.lst ys), ⟨xs.length, by simp, Nat.zero_le _, same_new hD, [], h0, upd_same⟩, ?_⟩
  rintro i m H ⟨rfl, hi, sm, ys, hR, hd⟩
  by_cases hlt : i < xs.length
  · refine .inr ⟨hgo i xs[i] H sm (by simp [hlt]), fun x H' y => ?_⟩
    obtain ⟨e, ex⟩ := hy i x H H' sm hlt y
    subst e
    have hl := hlen i ys _ hR
    refine he i x _ ys _ _ ex sm hd hR (fun H2 z s2 hf => ?_) (fun H2 s2 hf => ?_)
    · exact ⟨_, s2 _ _ hd, by omega, xs.length - (i + 1), by omega, rfl, hlt, Same.updD hD (sm.trans s2), ys ++ [z], hu _ _ _ _ _ hf (s2 _ _ hd), upd_same⟩
    · exact ⟨xs.length - (i + 1), by omega, rfl, hlt, sm.trans s2, ys, hf, s2 _ _ hd⟩
  · have e : i = xs.length := by omega
    subst e
    exact .inl ⟨hst H sm, hq H ys sm hR hd⟩
/-! ### rows by line -/
def pickR (i j : Nat) (rows : List R3) : List R3 := rows.filterMap fun r => if r.1 = j then some (i, r.2) else none
def byL (ss : List (List R3)) (j : Nat) : List R3 := ss.zipIdx.flatMap fun p => pickR p.2 j p.1
theorem byL_take {ss : List (List R3)} {i : Nat} {rows : List R3} (h : ss[i]? = some rows) (j : Nat) : byL (ss.take (i + 1)) j = byL (ss.take i) j ++ pickR i j rows := by
  have hi := (List.getElem?_eq_some_iff.mp h).1
  unfold byL
  rw [List.take_add_one, h, Option.toList_some, List.zipIdx_append, List.flatMap_append, List.length_take, Nat.min_eq_left (Nat.le_of_lt hi)]
  simp
theorem pickR_take {i j k : Nat} {rows : List R3} {r : R3} (h : rows[k]? = some r) : pickR i j (rows.take (k + 1)) = pickR i j (rows.take k) ++ (if r.1 = j then [(i, r.2)] else []) := by
  unfold pickR
  rw [List.take_add_one, h, Option.toList_some, List.filterMap_append]
  congr 1
  by_cases z : r.1 = j <;> simp [z]
/-- a list of lists of rows -/
def Rws (H : Hp) (ps : List Addr) (F : Nat → List R3) : Prop := ∀ j p, ps[j]? = some p → ∃ xs, H p = some (.lst xs) ∧ DTs H xs ((F j).map r3D)
theorem Rws.keep {H H' : Hp} {ps : List Addr} {F : Nat → List R3} (h : Rws H ps F) (s : Same H H') : Rws H' ps F := fun j p e => let ⟨xs, a, b⟩ := h j p e; ⟨xs, s _ _ a, b.keep s⟩
theorem nodup_at {ps : List Addr} (n : ps.Nodup) {i j : Nat} {p : Addr} (h : ps[i]? = some p) (h' : ps[j]? = some p) : i = j := by
  have hi := (List.getElem?_eq_some_iff.mp h).1
  exact (List.getElem?_inj hi n).mp (h.trans h'.symm)
theorem Rws.push {H : Hp} {ps : List Addr} {F : Nat → List R3} {l : Nat} {p : Addr} {xs : List V} {v : V} {r : R3} (h : Rws H ps F) (n : ps.Nodup) (hp : ps[l]? = some p) (hx : H p = some (.lst xs)) (hv : DT H v (r3D r)) : Rws (upd H p (.lst (xs ++ [v]))) ps (fun j => F j ++ if l = j then [r] else []) := by
  intro j p' e
  obtain ⟨ys, a, b⟩ := h j p' e
  have k := kt_upd (ys := xs ++ [v]) hx
  by_cases z : l = j
  · subst z
    obtain rfl : p = p' := Option.some.inj (hp.symm.trans e)
    obtain rfl : xs = ys := by rw [hx] at a; injection a with a; injection a
    refine ⟨xs ++ [v], upd_same, ?_⟩
    dsimp only
    rw [if_pos rfl, List.map_append]
    exact (b.kt k).snoc (hv.kt k)
  · refine ⟨ys, by rw [upd_ne (fun (w : p' = p) => z (nodup_at n hp (w ▸ e)))]; exact a, ?_⟩
    dsimp only
    rw [if_neg z, List.append_nil]
    exact b.kt k
/-- what the stores of a picture are: rows, and two further parts -/
abbrev Sto := List R3 × PyData × PyData
def stoD (s : Sto) : PyData := .tuple [.tuple (s.1.map r3D), s.2.1, s.2.2]
def wIn (rs : List R3) : List Nat := rs.filterMap fun r => if r.2.1 = ("writer" : Str) then some r.1 else none
def hIn (rs : List R3) : List R3 := rs.filter fun r => hB r.2
def clashR (rs : List R3) : Bool := decide (0 < (wIn rs).length) && decide (1 < (hIn rs).length)
def wF : PyData → Option PyData
  | .tuple [.int n, .str k, _] => if k = "writer" then some (.int n) else none
  | _ => none
def wU : PyData → Wd
  | .tuple _ => some []
  | _ => none
theorem wU_some (w : Wd) : (wU (wD w)).isSome = w.isSome := by cases w <;> rfl
def hF (d : PyData) : Option PyData := match d with
  | .tuple [.int _, .str k, w] => if hB (k, wU w) = true then some d else none
  | _ => none
theorem comp_tRD {K : PySem.W.Frag} {a D : Addr} {σ0 : St} {i0 : Nat} {tc : TT} {te : TE} {Q : VK} {H1 : Hp} {xs : List V} (R : Nat → List V → Hp → Prop) (hD : H1 D = none) (hl : SqT K H1 a xs) (hn : xs.length ≤ 1000000)
    (h0 : R 0 [] (upd H1 D (.lst []))) (hlen : ∀ i ys H, R i ys H → ys.length ≤ i) (hu : ∀ i ys H zs us, R i ys H → H D = some (.lst zs) → R i ys (upd H D (.lst us)))
    (he : ∀ (i : Nat) x H ys (Qy : VK) (Qn : Hp → Prop), xs[i]? = some x → Same H1 H → H D = some (.lst ys) → R i ys H → (∀ H' y, Same H H' → R (i + 1) (ys ++ [y]) H' → Qy y H') → (∀ H', Same H H' → R (i + 1) ys H' → Qn H') → tc (σ0.set i0 (some x)) H fun b H3 => if b = true then te (σ0.set i0 (some x)) H3 Qy else Qn H3)
    (hq : ∀ H' ys, Same H1 H' → R xs.length ys H' → H' D = some (.lst ys) → Q (.ref D) H') :
    ∃ W : Nat → Nat → Hp → Prop, (∃ m, W 0 m (upd H1 D (.lst []))) ∧ compW (Itt K a) D σ0 i0 tc te Q W :=
  comp_RD xs R hD hn (fun i x H s e => ⟨xs, x, s.seqT hl, e⟩) (fun H s => ⟨xs, s.seqT hl, Nat.le_refl _⟩) (fun i x H H' s _ y => ⟨y.1, y.2 xs (s.seqT hl)⟩) h0 hlen hu he hq
theorem byL_len {ss : List (List R3)} {c : Nat} (h : ∀ rows ∈ ss, rows.length ≤ c) (j : Nat) : ∀ i, (byL (ss.take i) j).length ≤ c * i
  | 0 => by simp [byL]
  | i + 1 => by
    have ih := byL_len h j i
    cases e : ss[i]? with
    | none =>
      have : ss.take (i + 1) = ss.take i := by rw [List.take_add_one, e]; simp
      rw [this, Nat.mul_succ]
      omega
    | some rows =>
      rw [byL_take e, List.length_append, Nat.mul_succ]
      have h1 : (pickR i j rows).length ≤ rows.length := List.length_filterMap_le _ _
      have h2 := h rows (List.mem_of_getElem? e)
      omega
end L2

set_option Elab.async false
set_option linter.all false
set_option maxRecDepth 100000
namespace L2
open PySem PySem.Spec PyProof.Rows
/-! ### sorted(tuple of whole numbers) -/
section
variable {prog : Program} {w : World} {A : Around} {E : Value → Shared → Prop} {s : Shared}
end
def rSortT (K : PySem.W.Frag) : List V → Hp → VK → Prop := fun xs H Q => ∃ p ns, xs = [.ref p] ∧ SqT K H p ((ns : List Int).map V.int) ∧ ns.length < 64 ∧ ∀ (q : Addr) (ns' : List Int) (H' : Hp), ns'.Perm ns → ns'.Pairwise (· ≤ ·) → New H q (.lst (ns'.map V.int)) H' → Q (.ref q) H'
def rSortA (K : PySem.W.Frag) : List V → Hp → VK → Prop := fun xs H Q => rSort K xs H Q ∨ rSortT K xs H Q
section
variable {X : Cx} {K : PySem.W.Frag}
/-- x = [.. for ..] where x is looked at from within a comprehension -/
theorem q_setC {e : Expr} {te : TE} {i : Nat} {x : Str} {pos pos' : Pos} (he : QE X e te) (s : X.N.Nodup ∧ X.N[i]? = some x ∧ Loc X.env.scope x ∧ swapsWith e (some (.Name x pos')) pos.line X.env = pure false ∧ (X.fn x = true ∨ X.env.scope.names.lookup x = some .local)) :
    QS X (.Assign [.Name x pos'] e pos) (tAsg te (gName i)) := ⟨ps_set s.1 s.2.1 s.2.2.1 he.h s.2.2.2.1 s.2.2.2.2⟩
end
end L2

set_option Elab.async false
set_option linter.all false
set_option maxRecDepth 100000
namespace L2
open PySem PySem.Spec PyProof.Rows
/-! ### lists of states, and lists of such lists -/
theorem filterMap_at {α : Type} (g : Nat → Option α) (j : Nat) : ∀ n, (List.range n).filterMap (fun k => if k = j then g k else none) = if j < n then (g j).toList else []
  | 0 => by simp
  | n + 1 => by
    rw [List.range_succ, List.filterMap_append, filterMap_at g j n]
    by_cases h : j < n
    · rw [if_pos h, if_pos (by omega)]
      have : n ≠ j := by omega
      simp [this]
    · rw [if_neg h]
      by_cases e : n = j
      · subst e
        rw [if_pos (by omega)]
        cases hg : g n <;> simp [hg]
      · rw [if_neg (by omega)]
        simp [e]
def rowF (row : List C2) (k : Nat) : Option R3 := (row[k]?).bind fun c => if c.1 = ("away" : Str) then none else some (k, c)
def rowsOf (row : List C2) : List R3 := (List.range row.length).filterMap (rowF row)
def cellR (i : Nat) (row : List C2) (j : Nat) : List R3 := match row[j]? with
  | some c => if c.1 = ("away" : Str) then [] else [(i, c)]
  | none => []
inductive Cols (H : Hp) : List Addr → List (List C2) → Prop
  | nil : Cols H [] []
  | cons {q : Addr} {xs : List V} {row : List C2} {qs : List Addr} {M : List (List C2)} : H q = some (.lst xs) → DTs H xs (row.map c2D) → Cols H qs M → Cols H (q :: qs) (row :: M)
theorem Cols.keep {H H' : Hp} (s : Same H H') : ∀ {qs : List Addr} {M : List (List C2)}, Cols H qs M → Cols H' qs M
  | _, _, .nil => .nil
  | _, _, .cons a b c => .cons (s _ _ a) (b.keep s) (c.keep s)
theorem Cols.length {H : Hp} : ∀ {qs : List Addr} {M : List (List C2)}, Cols H qs M → qs.length = M.length
  | _, _, .nil => rfl
  | _, _, .cons a b c => by rw [List.length_cons, List.length_cons, c.length]
theorem Cols.upd {H : Hp} {a : Addr} {zs us : List V} (ha : H a = some (.lst zs)) : ∀ {qs : List Addr} {M : List (List C2)}, Cols H qs M → a ∉ qs → Cols (L2.upd H a (.lst us)) qs M
  | _, _, .nil, _ => .nil
  | _, _, .cons (q := q) h b c, n => .cons (by rw [upd_ne (fun z => n (by rw [z]; exact List.mem_cons_self))]; exact h) (b.kt (kt_upd ha)) (c.upd ha fun z => n (List.mem_cons_of_mem _ z))
theorem Cols.snoc {H : Hp} {q : Addr} {xs : List V} {row : List C2} (hq : H q = some (.lst xs)) (hd : DTs H xs (row.map c2D)) : ∀ {qs : List Addr} {M : List (List C2)}, Cols H qs M → Cols H (qs ++ [q]) (M ++ [row])
  | _, _, .nil => .cons hq hd .nil
  | _, _, .cons a b c => .cons a b (c.snoc hq hd)
theorem Cols.get {H : Hp} : ∀ {qs : List Addr} {M : List (List C2)} {i : Nat} {x : V}, Cols H qs M → (qs.map V.ref)[i]? = some x → ∃ q xs row, x = .ref q ∧ M[i]? = some row ∧ H q = some (.lst xs) ∧ DTs H xs (row.map c2D)
  | _, _, 0, _, .cons a b c, e => by
    simp at e
    subst e
    exact ⟨_, _, _, rfl, rfl, a, b⟩
  | _, _, i + 1, _, .cons a b c, e => by
    rw [List.map_cons, List.getElem?_cons_succ] at e
    rw [List.getElem?_cons_succ]
    exact c.get e
theorem cell_of {H : Hp} {xs : List V} {row : List C2} (h : DTs H xs (row.map c2D)) {i : Nat} (hi : i < row.length) : ∃ t u v c, xs[i]? = some (.ref t) ∧ row[i]? = some c ∧ H t = some (.tup [.str c.1, v]) ∧ DT H v (wD c.2) ∧ u = V.ref t ∧ DT H u (c2D c) := by
  obtain ⟨x, e, d⟩ := h.at (i := i) (d := c2D row[i]) (by rw [List.getElem?_map, List.getElem?_eq_getElem hi]; rfl)
  have d0 := d
  obtain ⟨t, u, v, rfl, ht, h1, h2⟩ := d.two
  obtain rfl := h1.strI
  exact ⟨t, _, v, row[i], e, List.getElem?_eq_getElem hi, ht, h2, rfl, d0⟩
def dueF (c : Nat → Bool) : V → Option V
  | .int j => if c j.toNat = true then some (.int j) else none
  | _ => none
theorem rangeF_c (c : Nat → Bool) : ∀ n, ((List.range n).map fun i => V.int (0 + (i : Nat))).filterMap (dueF c) = (((List.range n).filter c).map fun n => ((n : Nat) : Int)).map V.int
  | 0 => rfl
  | n + 1 => by
    rw [List.range_succ, List.map_append, List.filterMap_append, rangeF_c c n, List.filter_append, List.map_append, List.map_append]
    congr 1
    simp only [List.map_cons, List.map_nil, List.filterMap_cons, List.filterMap_nil, Int.zero_add, Int.toNat_natCast, dueF]
    by_cases h : c n = true
    · simp [h]
    · simp [h]
theorem take_range {α : Type} {g : Nat → Option α} (k : Nat) : (List.range (k + 1)).filterMap g = (List.range k).filterMap g ++ (g k).toList := by
  rw [List.range_succ, List.filterMap_append]
  congr 1
theorem cut {a b : TS} {D : Ends} {σ : St} {H : Hp} (I : St → Hp → Prop) (h2 : ∀ σ H, I σ H → b D σ H) (h1 : (∀ σ H, I σ H → b D σ H) → tSeq a b D σ H) : tSeq a b D σ H := h1 h2
theorem next_ {D : Ends} {σ : St} {H : Hp} (h : D.nx σ H) : tNext D σ H := h
end L2

set_option Elab.async false
set_option linter.all false
set_option maxRecDepth 100000
namespace L2
open PySem PySem.Spec PyProof.Rows
open Sem (wp)
open AutoSeq1 (wpAny_loadPart')
/-! ### list(range(n)), list(reversed(range(n))) -/
section
variable {prog : Program} {w : World} {A : Around} {E : Value → Shared → Prop} {s : Shared}
theorem hintR {I : Addr} {x c : Int} {n : Nat} {Q : Value → Shared → Prop} (hi : IsRangeIter s.heap I x ((n : Nat) : Int) c) (q : Q (.int ((n : Nat) : Int) s.toks) { s with toks := s.toks + 1 }) : wpAny (model prog w) A (call (.builtin "range_iterator.__length_hint__") [.ref I]) Q E s := by
  have ty : s.TypeIs (.ref I) "range_iterator" := ⟨_, hi, rfl⟩
  refine wpAny_call_entry F.slot_range_iterator_length_hint ty F.entry_range_iterator_length_hint ?_ (F.args_range_iterator_length_hint_1 _)
  obtain ⟨hp, g, d, tk, os⟩ := s
  wp_walk using wpAny_loadPart' hi
  exact ⟨_, rfl, q⟩
theorem extR {R : Result → Shared → Prop} {I : Addr} {x c : Int} {n : Nat} (nh : A.handled = none) (hi : IsRangeIter s.heap I x ((n : Nat) : Int) c) (hz : n ≤ 1000) (S : Addr) (k0 : Nat) (hS : s.heap.get? S = some { cls := .type "list", data := .seq #[] k0 })
    (q : ∀ h' tk acc k, (∀ b o, b ≠ S → b ≠ I → s.heap.get? b = some o → h'.get? b = some o) → h'.get? S = some { cls := .type "list", dict := none, data := .seq acc k, slots := #[] } → ItemsOf (fun i v => ∃ t, v = .int (x + i * c) t) acc n → R (.ok (.ret .none)) { s with heap := h', toks := tk }) :
    wpAny (model prog w) A.in1 (Builtin.List.listExtendWith (.ref S) (.ref I) .none) (fun fin s' => match fin with | .done f => R (.ok f) s' | .again c' => c'.quiet = true ∧ codeAny (model prog w) A c' R s') (fun e s' => R (.error e) s') s := by
  have ne : S ≠ I := fun e => by rw [e, hi] at hS; simp at hS
  have nf : S ∉ [I] := fun m => ne (List.mem_singleton.mp m)
  have zl : (1000 : Nat) ≤ sizeLine := by decide
  have W := (Walks.range (prog := prog) (w := w) (A := A.in1) nh I x c n).toS
  have hi0 : IsRangeIter s.heap I (x + ((0 : Nat) : Int) * c) ((n : Int) - ((0 : Nat) : Int)) c := by simpa using hi
  have ty : s.TypeIs (.ref I) "range_iterator" := ⟨_, hi, rfl⟩
  have same : Builtin.List.listSameRef (.ref S) (.ref I) = false := by simp [Builtin.List.listSameRef, ne]
  unfold Builtin.List.listExtendWith
  refine wpAny_bind (wpAny_typeOf ty ?_)
  rw [if_neg (by rw [same]; decide)]
  refine wpAny_bind (W.self 0 _ _ _ hi0 (wpAny_bind (wpAny_holding ?_)))
  unfold Builtin.List.listLengthHint
  refine wpAny_bind (wpAny_specialOf ty F.nolen_ra ?_)
  refine (wpAny_bind (wpAny_specialOf ty F.hint_ra ?_) : wpAny _ A.in1 (specialOf (Value.ref I) (Str.ofString "__length_hint__") >>= _) _ _ _)
  generalize hid : ("range_iterator.__length_hint__" : String) = id0
  wp_delta
  rw [show splitId id0 = some ("range_iterator", "__length_hint__") from by subst hid; decide +kernel]
  subst hid
  refine wpAny_bind (wpAny_isInstance (b := true) ty (by rw [isSubtype_type]; kernel_rfl) ?_)
  refine (wpAny_bind (hintR hi ?_) : wpAny _ A.in1 (call (.builtin "range_iterator.__length_hint__") [.ref I] >>= _) _ _ _)
  refine wpAny_bind (m := asInt? _) (wpAny_pure ?_)
  dsimp only
  rw [if_neg (by simp [Builtin.List.listTooLong, sizeLine]; omega)]
  refine wpAny_pure ?_
  rw [if_neg (by decide)]
  refine wpAny_pure ⟨plainId_quiet F.plain_extend_loop _, codeAny_extend_loopS W (by omega) S nf .none n 0 _ #[] k0 rfl (Nat.zero_le _) hi0 hS (ItemsOf.nil _) fun s' acc k hm hS' hacc => ?_⟩
  rw [Moved.eq_with hm]
  refine q s'.heap s'.toks acc k (fun b o hb hb2 e => hm.heap b o (fun m => ?_) e) hS' hacc
  rcases List.mem_cons.mp m with e' | m
  · exact hb e'
  · exact hb2 (List.mem_singleton.mp m)
theorem callLR {Q : Value → Shared → Prop} {I : Addr} {x c : Int} {n : Nat} (nh : A.handled = none) (hi : IsRangeIter s.heap I x ((n : Nat) : Int) c) (hz : n ≤ 1000)
    (q : ∀ h' tk acc k, (∀ b o, b ≠ I → s.heap.get? b = some o → h'.get? b = some o) → h'.get? s.heap.objs.size = some { cls := .type "list", dict := none, data := .seq acc k, slots := #[] } → ItemsOf (fun i v => ∃ t, v = .int (x + i * c) t) acc n → Q (.ref s.heap.objs.size) { s with heap := h', toks := tk }) :
    wpAny (model prog w) A (call (.type "list") [.ref I]) Q E s := by
  refine callType_codes (Q₁ := fun obj s₁ => obj = .ref s.heap.objs.size ∧ s₁ = { s with heap := s.heap.push { cls := .type "list", data := .seq #[] } }) F.called_list (F.typeCall_list_1 _) F.entry_list_init (code_list_new _ ⟨rfl, rfl⟩) fun obj s₁ ⟨e1, e2⟩ => ?_
  subst e1 e2
  have hS : (s.heap.push { cls := .type "list", data := .seq #[] }).get? s.heap.objs.size = some { cls := .type "list", data := .seq #[] } := Heap.get?_push_size _ rfl
  refine ⟨⟨_, hS, rfl⟩, F.args_list_init_2 _ _, ?_⟩
  refine (wpAny_bind ?_ : wpAny _ _ (do let old ← Builtin.List.listItems (.ref s.heap.objs.size); Builtin.List.listUpdate (.ref s.heap.objs.size) (fun _ => #[]); letGo old.toList.reverse; Builtin.List.listExtendWith (.ref s.heap.objs.size) (.ref I) .none) _ _ _)
  unfold Builtin.List.listItems
  refine wpAny_bind (wpAny_seqItems hS rfl (wpAny_pure ?_))
  refine (?_ : wpAny _ _ (updateSeq s.heap.objs.size (fun _ => #[]) >>= fun _ => letGo (#[] : Array Value).toList.reverse >>= fun _ => Builtin.List.listExtendWith (.ref s.heap.objs.size) (.ref I) .none) _ _ _)
  refine wpAny_bind (wpAny_updateSeq hS rfl ?_ (hz := by simp))
  refine wpAny_bind (wpAny_letGo ?_)
  have hS2 := Heap.get?_update_self (Obj.mapSeq (fun _ => (#[] : Array Value))) hS rfl
  have old : ∀ b o, s.heap.get? b = some o → ((s.heap.push { cls := .type "list", data := .seq #[] }).update s.heap.objs.size (Obj.mapSeq (fun _ => (#[] : Array Value)))).get? b = some o := fun b o e => (Heap.get?_update_other _ _ (Nat.ne_of_gt (Heap.lt_size e))).trans (Heap.get?_push_of_some _ e)
  refine extR (A := A.in1) nh (old I _ hi) hz s.heap.objs.size _ hS2 fun h' tk acc k hk hS' hacc => ⟨rfl, q h' tk acc k (fun b o hb e => hk b o (Nat.ne_of_lt (Heap.lt_size e)) hb (old b o e)) hS' hacc⟩
theorem sub_ri_rev : isSubtype (.type "range_iterator") (.type "reversed") = pure false := by rw [isSubtype_type]; kernel_rfl
def riO (n : Nat) : Obj := { cls := .type "range_iterator", data := .fields #[rawInt ((n : Int) - 1), rawInt n, rawInt (-1)] }
theorem rsize (n : Nat) : Builtin.Range.rangeSize 0 n 1 = n := by
  unfold Builtin.Range.rangeSize
  rw [if_pos (by decide)]
  split
  · omega
  · omega
def fitsR (a b c : Int) : Bool := Builtin.Range.rangeFitsLong a && Builtin.Range.rangeFitsLong b && Builtin.Range.rangeFitsLong c && Builtin.Range.rangeFitsLong (-c) && Builtin.Range.rangeFitsLong (a - c) && Builtin.Range.rangeFitsLong (Builtin.Range.rangeSize a b c)
theorem callRG {r : Addr} {a b c : Int} {t u v : Tok} {Q : Value → Shared → Prop} (hr : IsRange s.heap r a b c t u v) (hf : fitsR a b c = true) (q : Q (.ref s.heap.objs.size) { s with heap := s.heap.push { cls := .type "range_iterator", data := .fields #[rawInt (a + (Builtin.Range.rangeSize a b c - 1) * c), rawInt (Builtin.Range.rangeSize a b c), rawInt (-c)] } }) : wpAny (model prog w) A (call (.builtin "range.__reversed__") [.ref r]) Q E s := by
  have ty : s.TypeIs (.ref r) "range" := ⟨_, hr, rfl⟩
  refine wpAny_call_entry F.slot_range_reversed ty F.entry_range_reversed ?_ (F.args_range_reversed_1 _)
  unfold Builtin.«range.__reversed__»
  refine wpAny_bind (wpAny_of_eq (a := Value.ref r) rfl ?_)
  unfold Builtin.Range.rangeFields
  refine wpAny_bind ?_
  refine wpAny_bind (wpAny_field hr rfl (x := .int a t) rfl ?_)
  refine wpAny_bind (m := asInt? _) (wpAny_pure ?_)
  refine wpAny_bind (wpAny_field hr rfl (x := .int b u) rfl ?_)
  refine wpAny_bind (m := asInt? _) (wpAny_pure ?_)
  refine wpAny_bind (wpAny_field hr rfl (x := .int c v) rfl ?_)
  refine wpAny_bind (m := asInt? _) (wpAny_pure ?_)
  refine wpAny_pure ?_
  dsimp only
  unfold fitsR at hf
  rw [hf]
  simp only [Bool.not_true, Bool.false_eq_true, if_false, if_true]
  exact wpAny_bind (wpAny_newObj_type (wpAny_pure ⟨_, rfl, q⟩))
theorem fits_n {n : Nat} (hz : n ≤ 1000) : fitsR 0 n 1 = true := by
  have : ∀ z : Int, -(2 ^ 63) ≤ z → z < 2 ^ 63 → Builtin.Range.rangeFitsLong z = true := fun z h1 h2 => by
    unfold Builtin.Range.rangeFitsLong
    rw [decide_eq_true h1, decide_eq_true h2]
    rfl
  unfold fitsR
  rw [rsize, this 0 (by omega) (by omega), this (n : Int) (by omega) (by omega), this 1 (by omega) (by omega), this (-1) (by omega) (by omega), this (0 - 1) (by omega) (by omega)]
  rfl
theorem callRR {r : Addr} {n : Nat} {t u v : Tok} {Q : Value → Shared → Prop} (hr : IsRange s.heap r 0 n 1 t u v) (hz : n ≤ 1000) (q : Q (.ref s.heap.objs.size) { s with heap := s.heap.push (riO n) }) : wpAny (model prog w) A (call (.builtin "range.__reversed__") [.ref r]) Q E s := by
  refine callRG hr (fits_n hz) ?_
  rw [rsize]
  have e : (0 : Int) + ((n : Int) - 1) * 1 = (n : Int) - 1 := by omega
  rw [e]
  exact q
theorem callRev {r : Addr} {n : Nat} {t u v : Tok} {Q : Value → Shared → Prop} (hr : IsRange s.heap r 0 n 1 t u v) (hz : n ≤ 1000) (q : Q (.ref s.heap.objs.size) { s with heap := s.heap.push (riO n) }) : wpAny (model prog w) A (call (.type "reversed") [.ref r]) Q E s := by
  have ty : s.TypeIs (.ref r) "range" := ⟨_, hr, rfl⟩
  refine callType_other (U := "range_iterator") (Q₁ := fun obj s₁ => obj = .ref s.heap.objs.size ∧ s₁ = { s with heap := s.heap.push (riO n) }) (by decide +kernel) F.create_reversed ⟨_, _, F.mro_reversed⟩ F.made_reversed sub_ri_rev (F.typeCall_reversed_1 _) (codeAny_of_tree ?_) ?_
  · refine (?_ : wpAny _ _ (do checkBuiltinCall "reversed.__new__" ⟨[.type "reversed", .ref r], []⟩; again (.builtin "reversed.__new__" ⟨[.type "reversed", .ref r], []⟩)) _ _ s)
    refine wpAny_bind (wpAny_of_eq (F.newCall_reversed_1 _) (wpAny_pure ⟨plainId_quiet F.plain_reversed_new _, codeAny_builtin F.entry_reversed_new ?_⟩))
    rw [Around.under_plainId F.plain_reversed_new _]
    unfold Builtin.«reversed.__new__»
    refine wpAny_bind (wpAny_of_eq (newClass_reversed _) ?_)
    try dsimp only
    refine wpAny_bind (wpAny_of_eq (a := ()) (by first | rfl | kernel_rfl) (wpAny_bind (wpAny_of_eq (a := ()) (by first | rfl | kernel_rfl) ?_)))
    try dsimp only
    refine wpAny_bind (wpAny_specialOf ty F.slot_range_reversed.lookup ?_)
    try dsimp only
    refine wpAny_bind (wpAny_of_eq (F.slot_range_reversed.bind _) ?_)
    try dsimp only
    have nn : ¬ ((Value.builtin "range.__reversed__" == Value.none) = true) := Bool.false_ne_true
    first
    | rw [if_neg nn]
    | (refine (?_ : wpAny _ _ (if (Value.builtin "range.__reversed__" == Value.none) = true then _ else _) _ _ _); rw [if_neg nn])
    refine wpAny_bind (wpAny_rule (wpAny_bind (m := runValue (.call (.builtin "range.__reversed__") ⟨[.ref r], []⟩)) (show wpAny _ _ (call (.builtin "range.__reversed__") [.ref r]) _ _ _ from callRR hr hz ?_)))
    first
    | exact wpAny_pure ⟨rfl, rfl⟩
    | exact wpAny_bind (wpAny_pure (wpAny_pure ⟨rfl, rfl⟩))
  · rintro obj s₁ ⟨rfl, rfl⟩
    exact ⟨⟨_, Heap.get?_push_size _ rfl, rfl⟩, q⟩
end
theorem items_vals : ∀ {acc : List Value} {f : Nat → Int}, (∀ (j : Nat) (v : Value), acc[j]? = some v → ∃ t, v = Value.int (f j) t) → Vals ((List.range acc.length).map fun i => V.int (f i)) acc
  | [], _, _ => .nil
  | v :: acc, f, h => by
    rw [List.length_cons, List.range_succ_eq_map, List.map_cons, List.map_map]
    obtain ⟨t, e⟩ := h 0 v rfl
    exact .cons ⟨t, e⟩ (items_vals (f := fun i => f (i + 1)) fun j v' e' => h (j + 1) v' e')
theorem items_of {P : Nat → Value → Prop} {acc : Array Value} {n : Nat} {f : Nat → Int} (h : ItemsOf P acc n) (hp : ∀ (j : Nat) (v : Value), P j v → ∃ t, v = Value.int (f j) t) : Vals ((List.range n).map fun i => V.int (f i)) acc.toList := by
  have hl : acc.toList.length = n := by simpa using h.1
  rw [← hl]
  exact items_vals fun j v e => hp j v (h.2 j v (by simpa using e))
/-- a new list of whole numbers by a function of the place -/
def tListI (g : Nat → Nat → Int) (ta : TA) : TE := fun σ H Q => ta σ H fun vs H1 => ∃ n : Nat, vs = [.int ((n : Nat) : Int)] ∧ n ≤ 1000 ∧ ∀ q H2, New H1 q (.lst ((List.range n).map fun i => V.int (g n i))) H2 → Q (.ref q) H2
section
variable {X : Cx} {a : Expr} {ta : TA} {p1 p2 p3 pos1 pos2 pos3 : Pos}
theorem pe_listR (hgL : Gl X "list") (hmL : X.mg "list" = none) (hgR : Gl X "range") (hmR : X.mg "range" = none) (hc : X.calm = true) (ha : PA X [a] ta) (hp : plainE a = true) : PE X (.Call (.Name "list" p1) [.Call (.Name "range" p2) [a] [] pos2] [] pos1) (tListI (fun _ i => ((i : Nat) : Int)) ta) := by
  intro pins s σ H Q I h
  refine Call_ (ld_blt I hgL hmL bb_list (PyProof.Rows.callWith_type1 ?_ (star_plain rfl) rfl))
  rw [show starEach [Expr.Call (.Name "range" p2) [a] [] pos2] X.env = [(false, eval (Expr.Call (.Name "range" p2) [a] [] pos2) X.env)] from star_plain rfl]
  refine Calls.spliced_cons ?_
  refine Call_ (ld_blt I hgR hmR boot_range (PyProof.Rows.callWith_type1 (thn (ha pos2 pins s σ H _ I h) fun us s1 ⟨vs, H1, I1, r1, q1⟩ => ?_) (star_plain hp) rfl))
  obtain ⟨n, e, hn, q⟩ := q1
  subst e
  obtain ⟨u, rfl, ru⟩ := vals1 r1
  obtain ⟨t, rfl⟩ := ru
  refine call_range_1 (Calls.spliced_nil ?_)
  have sm : Builtin.Range.small 0 n 1 = true := by
    have : ∀ z : Int, -(2 ^ 63) ≤ z → z < 2 ^ 63 → Builtin.Range.rangeFitsLong z = true := fun z h1 h2 => by
      unfold Builtin.Range.rangeFitsLong
      rw [decide_eq_true h1, decide_eq_true h2]
      rfl
    unfold Builtin.Range.small
    rw [rsize, this 0 (by omega) (by omega), this (n : Int) (by omega) (by omega), this 1 (by omega) (by omega)]
    simp
    exact Or.inr (this (n : Int) (by omega) (by omega))
  obtain ⟨h2, e2⟩ : ∃ h2, h2 = s1.heap.push { cls := .type "range", data := .fields #[.int 0 s1.toks, .int n t, .int 1 (s1.toks + 1)] } := ⟨_, rfl⟩
  have z2 : h2.objs.size = s1.heap.objs.size + 1 := by rw [e2, Heap.size_push]
  have k2 : ∀ b o, s1.heap.get? b = some o → h2.get? b = some o := fun b o e => by rw [e2]; exact Heap.get?_push_of_some _ e
  have r2 : IsRange h2 s1.heap.objs.size 0 n 1 s1.toks t (s1.toks + 1) := by rw [e2]; exact Heap.get?_push_size _ rfl
  rw [← e2]
  refine call_list_range (s := { s1 with heap := h2, toks := s1.toks + 1 + 1 }) (I1.ok.hd hc) r2 sm (rsize n) (by omega) fun h' tk acc c hk hS hacc => ?_
  have zl : (1000 : Nat) ≤ sizeLine := by decide
  have vv : Vals ((List.range n).map fun i => V.int ((i : Nat) : Int)) acc.toList := items_of hacc fun j v ⟨t, e⟩ => ⟨t, by rw [e, show (0 : Int) + ((j : Nat) : Int) * 1 = ((j : Nat) : Int) by omega]⟩
  have lt : s1.heap.objs.size ≤ h2.objs.size := by omega
  exact ⟨.ref h2.objs.size, _, I1.laid (t' := tk) (fun b o e => hk b o (k2 b o e)) lt (show ObjOk X.prog X.w _ _ _ (.lst ((List.range n).map fun i => V.int ((i : Nat) : Int))) from ⟨by rw [List.length_map, List.length_range]; omega, acc.toList, c, vv, by rw [Array.toArray_toList]; exact hS⟩), rfl, q _ _ (New.mk' (I1.hok.fresh lt))⟩
theorem pe_listRev (hgL : Gl X "list") (hmL : X.mg "list" = none) (hgV : Gl X "reversed") (hmV : X.mg "reversed" = none) (hgR : Gl X "range") (hmR : X.mg "range" = none) (hc : X.calm = true) (ha : PA X [a] ta) (hp : plainE a = true) : PE X (.Call (.Name "list" p1) [.Call (.Name "reversed" p2) [.Call (.Name "range" p3) [a] [] pos3] [] pos2] [] pos1) (tListI (fun n i => ((n : Nat) : Int) - 1 - ((i : Nat) : Int)) ta) := by
  intro pins s σ H Q I h
  refine Call_ (ld_blt I hgL hmL bb_list (PyProof.Rows.callWith_type1 ?_ (star_plain rfl) rfl))
  rw [show starEach [Expr.Call (.Name "reversed" p2) [.Call (.Name "range" p3) [a] [] pos3] [] pos2] X.env = [(false, eval (Expr.Call (.Name "reversed" p2) [.Call (.Name "range" p3) [a] [] pos3] [] pos2) X.env)] from star_plain rfl]
  refine Calls.spliced_cons ?_
  refine Call_ (ld_blt I hgV hmV boot_reversed (PyProof.Rows.callWith_type1 ?_ (star_plain rfl) rfl))
  rw [show starEach [Expr.Call (.Name "range" p3) [a] [] pos3] X.env = [(false, eval (Expr.Call (.Name "range" p3) [a] [] pos3) X.env)] from star_plain rfl]
  refine Calls.spliced_cons ?_
  refine Call_ (ld_blt I hgR hmR boot_range (PyProof.Rows.callWith_type1 (thn (ha pos3 pins s σ H _ I h) fun us s1 ⟨vs, H1, I1, r1, q1⟩ => ?_) (star_plain hp) rfl))
  obtain ⟨n, e, hn, q⟩ := q1
  subst e
  obtain ⟨u, rfl, ru⟩ := vals1 r1
  obtain ⟨t, rfl⟩ := ru
  refine call_range_1 (Calls.spliced_nil ?_)
  obtain ⟨h2, e2⟩ : ∃ h2, h2 = s1.heap.push { cls := .type "range", data := .fields #[.int 0 s1.toks, .int n t, .int 1 (s1.toks + 1)] } := ⟨_, rfl⟩
  have z2 : h2.objs.size = s1.heap.objs.size + 1 := by rw [e2, Heap.size_push]
  have k2 : ∀ b o, s1.heap.get? b = some o → h2.get? b = some o := fun b o e => by rw [e2]; exact Heap.get?_push_of_some _ e
  have r2 : IsRange h2 s1.heap.objs.size 0 n 1 s1.toks t (s1.toks + 1) := by rw [e2]; exact Heap.get?_push_size _ rfl
  rw [← e2]
  refine callRev (s := { s1 with heap := h2, toks := s1.toks + 1 + 1 }) r2 hn (Calls.spliced_nil ?_)
  have zl : (1000 : Nat) ≤ sizeLine := by decide
  have hi : IsRangeIter (h2.push (riO n)) h2.objs.size ((n : Int) - 1) ((n : Nat) : Int) (-1) := Heap.get?_push_size _ rfl
  refine callLR (s := { s1 with heap := h2.push (riO n), toks := s1.toks + 1 + 1 }) (I1.ok.hd hc) hi hn fun h' tk acc c hk hS hacc => ?_
  have vv : Vals ((List.range n).map fun i => V.int (((n : Nat) : Int) - 1 - ((i : Nat) : Int))) acc.toList := items_of hacc fun j v ⟨t, e⟩ => ⟨t, by rw [e, show ((n : Nat) : Int) - 1 + ((j : Nat) : Int) * (-1) = ((n : Nat) : Int) - 1 - ((j : Nat) : Int) by omega]⟩
  have lt : s1.heap.objs.size ≤ (h2.push (riO n)).objs.size := by rw [Heap.size_push, z2]; omega
  refine ⟨.ref _, _, I1.laid (t' := tk) (fun b o e => hk b o (fun z => by have h1 : b < s1.heap.objs.size := Heap.lt_size e; have h3 : b = h2.objs.size := z; exact absurd h1 (by rw [h3, z2]; exact Nat.not_lt.mpr (Nat.le_succ _))) (Heap.get?_push_of_some _ (k2 b o e))) lt (show ObjOk X.prog X.w _ _ _ (.lst ((List.range n).map fun i => V.int (((n : Nat) : Int) - 1 - ((i : Nat) : Int)))) from ⟨by rw [List.length_map, List.length_range]; omega, acc.toList, c, vv, by rw [Array.toArray_toList]; exact hS⟩), rfl, q _ _ (New.mk' (I1.hok.fresh lt))⟩
theorem q_listR (ha : QA X [a] ta) (s : Gl X "list" ∧ X.mg "list" = none ∧ Gl X "range" ∧ X.mg "range" = none ∧ X.calm = true ∧ plainE a = true) : QE X (.Call (.Name "list" p1) [.Call (.Name "range" p2) [a] [] pos2] [] pos1) (tListI (fun _ i => ((i : Nat) : Int)) ta) := ⟨pe_listR s.1 s.2.1 s.2.2.1 s.2.2.2.1 s.2.2.2.2.1 ha.h s.2.2.2.2.2⟩
theorem q_listRev (ha : QA X [a] ta) (s : Gl X "list" ∧ X.mg "list" = none ∧ Gl X "reversed" ∧ X.mg "reversed" = none ∧ Gl X "range" ∧ X.mg "range" = none ∧ X.calm = true ∧ plainE a = true) : QE X (.Call (.Name "list" p1) [.Call (.Name "reversed" p2) [.Call (.Name "range" p3) [a] [] pos3] [] pos2] [] pos1) (tListI (fun n i => ((n : Nat) : Int) - 1 - ((i : Nat) : Int)) ta) := ⟨pe_listRev s.1 s.2.1 s.2.2.1 s.2.2.2.1 s.2.2.2.2.1 s.2.2.2.2.2.1 s.2.2.2.2.2.2.1 ha.h s.2.2.2.2.2.2.2⟩
end
end L2

set_option Elab.async false
set_option linter.all false
set_option maxRecDepth 100000
set_option maxHeartbeats 1000000
namespace K66
open PySem L2
def top (i : Nat) : Stmt := PySem.Challenge.pw_linewarden_k66_last_words_made_up.main.body.getD i (.Pass ⟨0, 0, 0, 0⟩)
structure Bl (mg : Str → Option Value) : Prop where
  isinstance : mg "isinstance" = none
  tuple : mg "tuple" = none
  len : mg "len" = none
  list : mg "list" = none
  range : mg "range" = none
  enumerate : mg "enumerate" = none
  reversed : mg "reversed" = none
abbrev ciV : List V := [.str "lowered", .str "yielded"]
structure Tx (K : PySem.W.Frag) (mg : Str → Option Value) (aC cN : Addr) : Prop where
  CALLED_IN : mg "CALLED_IN" = some (.ref aC)
  qC : ∀ H, SqT K H aC ciV
  NoPlace : mg "NoPlace" = some (.ref cN)
  x_NoPlace : ExcK K cN
abbrev sPStates : Stmt := top 6
abbrev sPLast : Stmt := top 5
abbrev sPBrings : Stmt := top 7
abbrev sCellAt : Stmt := top 9
abbrev sWords : Stmt := top 10
abbrev sStates : Stmt := top 11
abbrev sLeaving : Stmt := top 12
abbrev sHome : Stmt := top 13
abbrev sLetters : Stmt := top 14
abbrev sDue : Stmt := top 15
abbrev sStore : Stmt := top 16
abbrev sLaw : Stmt := top 17
section
variable {P : Program} {w : World} {K : PySem.W.Frag} {mg : Str → Option Value} {base : Heap}
/-! ### the program: states_by_line -/
def spStates : Sp := fun vs H Q _ => ∃ (x : V) (ss : List Sto) (hs : List PyData) (lt : PyData), vs = [x] ∧ DT H x (.tuple [.tuple (ss.map stoD), .tuple hs, lt]) ∧ ss.length ≤ 64 ∧ hs.length ≤ 64 ∧ (∀ s ∈ ss, s.1.length ≤ 64 ∧ ∀ r ∈ s.1, r.1 < hs.length) ∧
  ∀ q ps H', Same H H' → H q = none → H' q = some (.lst (ps.map V.ref)) → ps.length = hs.length → Rws H' ps (byL (ss.map (·.1))) → Q (.ref q) H'
theorem scPStates : FnScope ["picture", "states", "near", "store", "line", "kind", "words"] ["picture"] (defScope sPStates) := ⟨rfl, rfl, rfl, by decide +kernel, rfl, by decide +kernel, by decide +kernel⟩
theorem ok_states {f : Addr} {fd : FuncData} (F : Fun K "states_by_line" "states_by_line" sPStates f fd) (Z : Bl mg) : FnOk P w K mg base CX0 1 f fd ["picture"] spStates := by
  refine F.ok scPStates (fun vs H Q E h => ?_) (fun cdv A outer s H vs Q E hr h => ?_)
  · obtain ⟨x, ss, hs, lt, rfl, _⟩ := h
    rfl
  · obtain ⟨x, ss, hs, lt, rfl, hx, hl1, hl2, hok, q⟩ := h
    have nd := scPStates.nd
    obtain ⟨t, u1, u2, u3, rfl, ht, d1, d2, d3⟩ := hx.three
    obtain ⟨a1, xs1, rfl, e1, r1⟩ := d1.tupI
    obtain ⟨a2, xs2, rfl, e2, r2⟩ := d2.tupI
    have l1 : xs1.length = ss.length := by rw [r1.length, List.length_map]
    have l2 : xs2.length = hs.length := r2.length
    apply body_of
    (conv => arg 2; whnf)
    with_reducible
      apply q_then
      apply q_setcomp (N' := ["home"]) (ix := [none]) (i0 := 0) (i := 1)
      apply q_iseq (K := K)
      apply q_ix
      apply q_var (i := 0)
      with_unfolding_all first | exact ⟨rfl, Or.inl rfl, by decide, by decide⟩ | exact ⟨rfl, Or.inr (Or.inl rfl), by decide, by decide⟩ | exact ⟨rfl, Or.inr (Or.inr rfl), by decide, by decide⟩
      apply q_int
      with_unfolding_all exact ⟨kix (K := K) rfl, fun _ _ => rfl⟩
      with_unfolding_all exact rfl
      intro cl C s2 H2 fp
      apply q_ifnil
      intro cl C s2 H2 fp
      apply q_lstA
      apply q_nil
      with_unfolding_all exact ⟨by kernel_rfl, rfl, rfl, rfl, rfl, nd, rfl, rfl, fun _ => rfl, rfl⟩
      apply q_then
      apply q_for
      apply q_ienumA (K := K)
      apply q_cons
      apply q_ix
      apply q_var (i := 0)
      with_unfolding_all first | exact ⟨rfl, Or.inl rfl, by decide, by decide⟩ | exact ⟨rfl, Or.inr (Or.inl rfl), by decide, by decide⟩ | exact ⟨rfl, Or.inr (Or.inr rfl), by decide, by decide⟩
      apply q_int
      with_unfolding_all exact ⟨kix (K := K) rfl, fun _ _ => rfl⟩
      apply q_nil
      with_unfolding_all exact rfl
      with_unfolding_all exact ⟨rfl, Z.enumerate, rfl, rfl⟩
      apply q_gtup (K := K)
      apply q_gcons
      apply q_name (i := 2)
      with_unfolding_all exact ⟨nd, rfl, Or.inl rfl, Or.inl rfl⟩
      apply q_gcons
      apply q_name (i := 3)
      with_unfolding_all exact ⟨nd, rfl, Or.inl rfl, Or.inl rfl⟩
      apply q_gnil
      with_unfolding_all exact rfl
      with_unfolding_all exact rfl
      with_unfolding_all exact ⟨rfl, rfl, rfl⟩
      apply q_last
      apply q_for
      apply q_iseq (K := K)
      apply q_ix
      apply q_var (i := 3)
      with_unfolding_all first | exact ⟨rfl, Or.inl rfl, by decide, by decide⟩ | exact ⟨rfl, Or.inr (Or.inl rfl), by decide, by decide⟩ | exact ⟨rfl, Or.inr (Or.inr rfl), by decide, by decide⟩
      apply q_int
      with_unfolding_all exact ⟨kix (K := K) rfl, fun _ _ => rfl⟩
      with_unfolding_all exact rfl
      apply q_gtup (K := K)
      apply q_gcons
      apply q_name (i := 4)
      with_unfolding_all exact ⟨nd, rfl, Or.inl rfl, Or.inl rfl⟩
      apply q_gcons
      apply q_name (i := 5)
      with_unfolding_all exact ⟨nd, rfl, Or.inl rfl, Or.inl rfl⟩
      apply q_gcons
      apply q_name (i := 6)
      with_unfolding_all exact ⟨nd, rfl, Or.inl rfl, Or.inl rfl⟩
      apply q_gnil
      with_unfolding_all exact rfl
      with_unfolding_all exact rfl
      with_unfolding_all exact rfl
      with_unfolding_all exact ⟨rfl, rfl, rfl⟩
      apply q_last
      apply q_expr
      apply q_bm (K := K)
      apply q_ix
      apply q_var (i := 1)
      with_unfolding_all first | exact ⟨rfl, Or.inl rfl, by decide, by decide⟩ | exact ⟨rfl, Or.inr (Or.inl rfl), by decide, by decide⟩ | exact ⟨rfl, Or.inr (Or.inr rfl), by decide, by decide⟩
      apply q_var (i := 4)
      with_unfolding_all first | exact ⟨rfl, Or.inl rfl, by decide, by decide⟩ | exact ⟨rfl, Or.inr (Or.inl rfl), by decide, by decide⟩ | exact ⟨rfl, Or.inr (Or.inr rfl), by decide, by decide⟩
      with_unfolding_all exact ⟨kix (K := K) rfl, fun _ _ => rfl⟩
      apply q_cons
      apply q_tupA
      apply q_cons
      apply q_var (i := 2)
      with_unfolding_all first | exact ⟨rfl, Or.inl rfl, by decide, by decide⟩ | exact ⟨rfl, Or.inr (Or.inl rfl), by decide, by decide⟩ | exact ⟨rfl, Or.inr (Or.inr rfl), by decide, by decide⟩
      apply q_cons
      apply q_var (i := 5)
      with_unfolding_all first | exact ⟨rfl, Or.inl rfl, by decide, by decide⟩ | exact ⟨rfl, Or.inr (Or.inl rfl), by decide, by decide⟩ | exact ⟨rfl, Or.inr (Or.inr rfl), by decide, by decide⟩
      apply q_cons
      apply q_var (i := 6)
      with_unfolding_all first | exact ⟨rfl, Or.inl rfl, by decide, by decide⟩ | exact ⟨rfl, Or.inr (Or.inl rfl), by decide, by decide⟩ | exact ⟨rfl, Or.inr (Or.inr rfl), by decide, by decide⟩
      apply q_nil
      with_unfolding_all exact rfl
      with_unfolding_all exact rfl
      with_unfolding_all exact rfl
      apply q_nil
      with_unfolding_all exact rfl
      with_unfolding_all exact ⟨rfl, mt_append, PySem.F.plainAttrs_list, PySem.F.slot_list_append, PySem.F.type_list_append, rfl, rfl, rfl, rfl⟩
      with_unfolding_all exact rfl
      with_unfolding_all exact ⟨PassesOwn.never, rfl, fun _ => rfl⟩
      with_unfolding_all exact ⟨PassesOwn.never, rfl, fun _ => rfl⟩
      apply q_last
      apply q_ret
      apply q_var (i := 1)
      with_unfolding_all first | exact ⟨rfl, Or.inl rfl, by decide, by decide⟩ | exact ⟨rfl, Or.inr (Or.inl rfl), by decide, by decide⟩ | exact ⟨rfl, Or.inr (Or.inr rfl), by decide, by decide⟩
    refine .inr ⟨_, rfl, .inr (.inl ⟨t, _, _, _, rfl, rfl, SqT.of ht, at_nat (j := 1) rfl rfl, a2, rfl, ⟨_, SqT.of e2⟩, fun D hD => ?_⟩)⟩
    refine comp_tRD (K := K) (xs := xs2) (fun i ys H' => ∃ ps : List Addr, ys = ps.map V.ref ∧ ps.length = i ∧ ps.Nodup ∧ ∀ p ∈ ps, H' p = some (.lst []) ∧ H p = none ∧ p ≠ D) hD (SqT.of e2) (by omega) ⟨[], rfl, rfl, List.nodup_nil, fun _ h => by cases h⟩ (fun i ys H' ⟨ps, e, l, _⟩ => by rw [e, List.length_map]; omega) (fun i ys H' zs us ⟨ps, e, l, n, hp⟩ hz => ⟨ps, e, l, n, fun p m => ⟨by rw [upd_ne (hp p m).2.2]; exact (hp p m).1, (hp p m).2⟩⟩) (fun i x H' ys Qy Qn ex sm hd ⟨ps, e, l, n, hp⟩ h1 h2 => ?_) fun H1 ys s1 ⟨ps, e, l, n, hp⟩ hD1 => ?_
    · subst e
      refine iteT (B := Qn H') ⟨Nat.zero_le _, fun p H2 n2 => h1 H2 (.ref p) n2.2.1 ⟨ps ++ [p], by simp, by simp [l], ?_, fun p' m => ?_⟩⟩
      · refine List.nodup_append.mpr ⟨n, by simp, fun y hy z hz e => ?_⟩
        obtain rfl := List.mem_singleton.mp hz
        subst e
        have := (hp y hy).1
        rw [n2.1] at this
        cases this
      · rcases List.mem_append.mp m with m | m
        · exact ⟨n2.2.1 _ _ (hp p' m).1, (hp p' m).2⟩
        · obtain rfl := List.mem_singleton.mp m
          exact ⟨n2.2.2, sm.free n2.1, fun z => by have := n2.1; rw [z, hd] at this; cases this⟩
    subst e
    rw [l2] at l
    refine st_norm (σ' := [some (.ref t), some (.ref D), none, none, none, none, none]) rfl ?_
    dsimp only
    have hrows : ∀ rows ∈ ss.map (·.1), rows.length ≤ 64 := fun rows h => by
      obtain ⟨s, m, rfl⟩ := List.mem_map.mp h
      exact (hok s m).1
    refine ⟨_, rfl, .inr (.inl ⟨t, _, _, _, rfl, rfl, SqT.of (s1 _ _ ht), at_nat (j := 0) rfl rfl, a1, xs1, rfl, .inr ⟨SqT.of (s1 _ _ e1), for_enumT (K := K) (a := a1) (xs := xs1) (fun i σ H' => ∃ v2 v3 v4 v5 v6, σ = [some (.ref t), some (.ref D), v2, v3, v4, v5, v6] ∧ Same H H' ∧ H' D = some (.lst (ps.map V.ref)) ∧ Rws H' ps (byL ((ss.map (·.1)).take i))) ⟨_, _, _, _, _, rfl, s1, hD1, fun j p e => ⟨[], (hp p (List.mem_of_getElem? e)).1, .nil⟩⟩ (fun i σ H' _ ⟨_, _, _, _, _, _, s', _⟩ => SqT.of (s' _ _ e1)) ?_ ?_⟩⟩)⟩
    · rintro i x tt σ H2 H3 hx ⟨v2, v3, v4, v5, v6, rfl, s2, hD2, hR2⟩ n3
      obtain ⟨d, ed, hxd⟩ := r1.get hx
      rw [List.getElem?_map] at ed
      obtain ⟨s, es, rfl⟩ : ∃ s, ss[i]? = some s ∧ stoD s = d := by
        cases e : ss[i]? with
        | none => rw [e] at ed; cases ed
        | some s => rw [e] at ed; exact ⟨s, rfl, Option.some.inj ed⟩
      have ms := List.mem_of_getElem? es
      have es1 : (ss.map (·.1))[i]? = some s.1 := by rw [List.getElem?_map, es]; rfl
      have hi : i < ss.length := (List.getElem?_eq_some_iff.mp es).1
      have s3 := s2.trans n3.2.1
      obtain ⟨b, u, v, y, rfl, hb, k1, k2, k3⟩ := (hxd.keep s3).three
      obtain ⟨a3, xs3, rfl, e3, r3⟩ := k1.tupI
      have l3 : xs3.length = s.1.length := by rw [r3.length, List.length_map]
      refine ⟨tt, _, rfl, SqT.of n3.2.2, rfl, _, _, rfl, _, _, rfl, rfl, ?_⟩
      dsimp only [gName]
      refine st_norm (σ' := [some (.ref t), some (.ref D), some (.int ((i : Nat) : Int)), some (.ref b), v4, v5, v6]) rfl ?_
      refine .inr ⟨_, rfl, .inr (.inl ⟨b, _, _, _, rfl, rfl, SqT.of hb, at_nat (j := 0) rfl rfl, a3, rfl, ⟨_, SqT.of e3⟩, for_tup (K := K) (a := a3) (xs := xs3) (fun k σ H' => ∃ v4 v5 v6, σ = [some (.ref t), some (.ref D), some (.int ((i : Nat) : Int)), some (.ref b), v4, v5, v6] ∧ Same H H' ∧ KTu H3 H' ∧ H' D = some (.lst (ps.map V.ref)) ∧ Rws H' ps (fun j => byL ((ss.map (·.1)).take i) j ++ pickR i j (s.1.take k))) ⟨_, _, _, rfl, s3, KTu.refl _, n3.2.1 _ _ hD2, ?_⟩ (fun k σ H' _ ⟨_, _, _, _, _, kt, _⟩ => SqT.of (kt _ _ e3)) ?_ ?_⟩)⟩
      · have := hR2.keep n3.2.1
        intro j p e
        obtain ⟨xs, a, c⟩ := this j p e
        exact ⟨xs, a, by simpa [pickR] using c⟩
      · rintro k x σ H4 hx4 ⟨w4, w5, w6, rfl, s4, kt4, hD4, hR4⟩
        obtain ⟨d, ed4, hxd4⟩ := r3.get hx4
        rw [List.getElem?_map] at ed4
        obtain ⟨r, er, rfl⟩ : ∃ r, s.1[k]? = some r ∧ r3D r = d := by
          cases e : s.1[k]? with
          | none => rw [e] at ed4; cases ed4
          | some r => rw [e] at ed4; exact ⟨r, rfl, Option.some.inj ed4⟩
        have hr1 := (hok s ms).2 r (List.mem_of_getElem? er)
        obtain ⟨c, y1, y2, y3, rfl, hc, g1, g2, g3⟩ := (hxd4.kt kt4).three
        obtain rfl := g1.intI
        obtain rfl := g2.strI
        obtain ⟨p, ep⟩ : ∃ p, ps[r.1]? = some p := ⟨_, List.getElem?_eq_getElem (by omega)⟩
        obtain ⟨xs, hpx, hdx⟩ := hR4 r.1 p ep
        have hlx : xs.length ≤ 64 * 64 + 64 := by
          rw [hdx.length, List.length_map, List.length_append]
          have b1 := byL_len hrows r.1 i
          have b2 : (pickR i r.1 (s.1.take k)).length ≤ (s.1.take k).length := List.length_filterMap_le _ _
          have b3 := (hok s ms).1
          rw [List.length_take] at b2
          have : 64 * i ≤ 64 * 64 := Nat.mul_le_mul_left _ (by omega)
          omega
        have hps : (ps.map V.ref)[r.1]? = some (.ref p) := by rw [List.getElem?_map, ep]; rfl
        refine ⟨c, _, rfl, SqT.of hc, rfl, _, _, rfl, _, _, rfl, _, _, rfl, rfl, ?_⟩
        dsimp only [gName]
        refine st_norm (σ' := [some (.ref t), some (.ref D), some (.int ((i : Nat) : Int)), some (.ref b), some (.int ((r.1 : Nat) : Int)), some (.str r.2.1), some y3]) rfl ?_
        refine ⟨_, rfl, _, rfl, .inl ⟨D, _, _, _, rfl, rfl, SqL.of hD4, at_nat (j := r.1) hps rfl, ⟨.inl ⟨rfl, _, SqL.of hpx⟩, _, rfl, _, rfl, _, rfl, (by show 3 ≤ sizeLine; decide), fun q5 H5 n5 => ?_⟩⟩⟩
        have hpx5 := n5.2.1 _ _ hpx
        have hv : DT H5 (.ref q5) (r3D (i, r.2)) := n5.tup (.cons (.int _) (.cons (.str _) (.cons g3 .nil)))
        have pn : p ≠ D := (hp p (List.mem_of_getElem? ep)).2.2
        have hz : (64 * 64 + 64 : Nat) < sizeLine := by decide
        refine ⟨p, _, _, rfl, rfl, hpx5, by omega, ⟨_, _, _, rfl, Same.updD (hp p (List.mem_of_getElem? ep)).2.1 (s4.trans n5.2.1), kt4.trans (n5.2.1.kt'.trans (kt_upd hpx5)), ?_, ?_⟩⟩
        · rw [upd_ne (Ne.symm pn)]
          exact n5.2.1 _ _ hD4
        · have := (hR4.keep n5.2.1).push n ep hpx5 hv
          intro j p' e
          obtain ⟨zs, za, zb⟩ := this j p' e
          refine ⟨zs, za, ?_⟩
          dsimp only
          rw [pickR_take er, ← List.append_assoc]
          exact zb
      · rintro σ H4 ⟨w4, w5, w6, rfl, s4, kt4, hD4, hR4⟩
        refine ⟨_, _, _, _, _, rfl, s4, hD4, fun j p e => ?_⟩
        obtain ⟨zs, za, zb⟩ := hR4 j p e
        refine ⟨zs, za, ?_⟩
        rw [byL_take es1]
        rw [l3, List.take_length] at zb
        exact zb
    · rintro σ H4 ⟨v2, v3, v4, v5, v6, rfl, s4, hD4, hR4⟩
      rw [l1, ← List.length_map (f := fun s : Sto => s.1) (as := ss), List.take_length] at hR4
      exact ⟨_, rfl, q D ps H4 s4 hD hD4 l hR4⟩
end
end K66

set_option Elab.async false
set_option linter.all false
set_option maxRecDepth 100000
set_option maxHeartbeats 1000000
namespace K66
open PySem L2
/-! ### data -/
abbrev LT := Str × Nat × Int × Wd
def ltD (l : LT) : PyData := .tuple [.str l.1, .int ((l.2.1 : Nat) : Int), .int l.2.2.1, wD l.2.2.2]
def wrD : Option Nat → PyData
  | none => .none
  | some n => .int ((n : Nat) : Int)
def wrV : Option Nat → V
  | none => .non
  | some n => .int ((n : Nat) : Int)
theorem wrV_dt (H : Hp) (w : Option Nat) : DT H (wrV w) (wrD w) := by
  cases w with
  | none => exact .non
  | some n => exact .int _
theorem wrV_of {H : Hp} {x : V} {w : Option Nat} (h : DT H x (wrD w)) : x = wrV w := by
  cases w with
  | none => exact h.nonI
  | some n => exact h.intI
abbrev Hm := List Int × Option Nat
def hmD (h : Hm) : PyData := .tuple [.tuple (h.1.map PyData.int), wrD h.2, .tuple [], .tuple [], .none]
theorem DT.four {H : Hp} {x : V} {a b c d : PyData} (h : DT H x (.tuple [a, b, c, d])) : ∃ t u v y z, x = .ref t ∧ H t = some (.tup [u, v, y, z]) ∧ DT H u a ∧ DT H v b ∧ DT H y c ∧ DT H z d := by
  obtain ⟨t, xs, rfl, ht, r⟩ := h.tupI
  cases r with
  | cons r1 r => cases r with
    | cons r2 r => cases r with
      | cons r3 r => cases r with
        | cons r4 r => cases r; exact ⟨t, _, _, _, _, rfl, ht, r1, r2, r3, r4⟩
theorem DT.five {H : Hp} {x : V} {a b c d e : PyData} (h : DT H x (.tuple [a, b, c, d, e])) : ∃ t u v y z k, x = .ref t ∧ H t = some (.tup [u, v, y, z, k]) ∧ DT H u a ∧ DT H v b ∧ DT H y c ∧ DT H z d ∧ DT H k e := by
  obtain ⟨t, xs, rfl, ht, r⟩ := h.tupI
  cases r with
  | cons r1 r => cases r with
    | cons r2 r => cases r with
      | cons r3 r => cases r with
        | cons r4 r => cases r with
          | cons r5 r => cases r; exact ⟨t, _, _, _, _, _, rfl, ht, r1, r2, r3, r4, r5⟩
/-! ### the last words -/
def isWr (c : C2) : Bool := decide (c.1 = ("writer" : Str))
def isLw (c : C2) : Bool := decide (c.1 = ("leaving writer" : Str))
def brB (l : LT) : Bool := decide (l.1 = "lowered" ∨ l.1 = "yielded") && l.2.2.2.isSome
def k1 (rs : List R3) : List Wd := (rs.filter fun r => isWr r.2).map (·.2.2)
def k2 (ls : List LT) (j : Nat) : List Wd := (ls.filter fun l => decide (l.2.1 = j) && brB l).map (·.2.2.2)
def k3 (rs : List R3) (wr : Option Nat) : List Wd := (rs.filter fun r => decide (some r.1 = wr) && isLw r.2).map (·.2.2)
def lastL (rs : List R3) (ls : List LT) (j : Nat) (h : Hm) : List Wd := k1 rs ++ k2 ls j ++ k3 rs h.2 ++ [some h.1]
def lastW (rs : List R3) (ls : List LT) (j : Nat) (h : Hm) : Wd := (lastL rs ls j h).head?.getD none
def f1 : PyData → Option PyData
  | .tuple [_, .str k, w] => if k = ("writer" : Str) then some w else none
  | _ => none
theorem f1_map (rs : List R3) : (rs.map r3D).filterMap f1 = (k1 rs).map wD := by
  induction rs with
  | nil => rfl
  | cons r rs ih =>
    unfold k1 at ih ⊢
    rw [List.map_cons, List.filterMap_cons, List.filter_cons]
    have e : f1 (r3D r) = if r.2.1 = ("writer" : Str) then some (wD r.2.2) else none := rfl
    have e2 : isWr r.2 = decide (r.2.1 = ("writer" : Str)) := rfl
    by_cases z : r.2.1 = ("writer" : Str)
    · rw [e, e2, if_pos z, decide_eq_true z, ih]
      rfl
    · rw [e, e2, if_neg z, decide_eq_false z, ih]
      rfl
def f3 (wr : Option Nat) : PyData → Option PyData
  | .tuple [.int n, .str k, w] => if some n = wr.map (fun m => ((m : Nat) : Int)) ∧ k = ("leaving writer" : Str) then some w else none
  | _ => none
theorem some_wr (n : Nat) (wr : Option Nat) : (some ((n : Nat) : Int) = wr.map fun m => ((m : Nat) : Int)) ↔ some n = wr := by
  cases wr with
  | none => simp
  | some m =>
    simp only [Option.map_some, Option.some.injEq]
    omega
theorem f3_r (wr : Option Nat) (r : R3) : f3 wr (r3D r) = if (decide (some r.1 = wr) && isLw r.2) = true then some (wD r.2.2) else none := by
  have : f3 wr (r3D r) = if some ((r.1 : Nat) : Int) = wr.map (fun m => ((m : Nat) : Int)) ∧ r.2.1 = ("leaving writer" : Str) then some (wD r.2.2) else none := rfl
  rw [this]
  unfold isLw
  by_cases h : some r.1 = wr
  · by_cases h2 : r.2.1 = ("leaving writer" : Str)
    · rw [if_pos ⟨(some_wr _ _).mpr h, h2⟩, if_pos (by rw [decide_eq_true h, h2]; simp)]
    · rw [if_neg (fun z => h2 z.2), if_neg (by simp [h2])]
  · rw [if_neg (fun z => h ((some_wr _ _).mp z.1)), if_neg (by simp [h])]
theorem f3_map (wr : Option Nat) (rs : List R3) : (rs.map r3D).filterMap (f3 wr) = (k3 rs wr).map wD := by
  induction rs with
  | nil => rfl
  | cons r rs ih =>
    unfold k3 at ih ⊢
    rw [List.map_cons, List.filterMap_cons, List.filter_cons, f3_r]
    by_cases z : (decide (some r.1 = wr) && isLw r.2) = true
    · rw [if_pos z, if_pos z, ih]
      rfl
    · rw [if_neg z, if_neg z, ih]
def f2 (j : Nat) : PyData → Option PyData
  | .tuple [.str k, .int n, _, w] => if n = ((j : Nat) : Int) ∧ (k = "lowered" ∨ k = "yielded") ∧ (wU w).isSome = true then some w else none
  | _ => none
theorem f2_r (j : Nat) (l : LT) : f2 j (ltD l) = if (decide (l.2.1 = j) && brB l) = true then some (wD l.2.2.2) else none := by
  have : f2 j (ltD l) = if ((l.2.1 : Nat) : Int) = ((j : Nat) : Int) ∧ (l.1 = "lowered" ∨ l.1 = "yielded") ∧ (wU (wD l.2.2.2)).isSome = true then some (wD l.2.2.2) else none := rfl
  rw [this, wU_some]
  unfold brB
  by_cases h : l.2.1 = j
  · by_cases h2 : l.1 = "lowered" ∨ l.1 = "yielded"
    · by_cases h3 : l.2.2.2.isSome = true
      · rw [if_pos ⟨by rw [h], h2, h3⟩, if_pos (by rw [decide_eq_true h, decide_eq_true h2, h3]; rfl)]
      · rw [if_neg (fun z => h3 z.2.2), if_neg (by simp [h3])]
    · rw [if_neg (fun z => h2 z.2.1), if_neg (by rw [decide_eq_false h2]; simp)]
  · rw [if_neg (fun z => h (by have := z.1; omega)), if_neg (by simp [h])]
theorem f2_map (j : Nat) (ls : List LT) : (ls.map ltD).filterMap (f2 j) = (k2 ls j).map wD := by
  induction ls with
  | nil => rfl
  | cons r rs ih =>
    unfold k2 at ih ⊢
    rw [List.map_cons, List.filterMap_cons, List.filter_cons, f2_r]
    by_cases z : (decide (r.2.1 = j) && brB r) = true
    · rw [if_pos z, if_pos z, ih]
      rfl
    · rw [if_neg z, if_neg z, ih]
theorem in2V {k a b : Str} : (if false = true then !inV (.str k) [.str a, .str b] else inV (.str k) [.str a, .str b]) = decide (k = a ∨ k = b) := by
  rw [if_neg Bool.false_ne_true]
  exact in2
section
variable {P : Program} {w : World} {K : PySem.W.Frag} {mg : Str → Option Value} {base : Heap} {aC cN : Addr}
def spBrings : Sp := fun vs H Q _ => ∃ (x : V) (l : LT), vs = [x] ∧ DT H x (ltD l) ∧ Q (.bl (brB l)) H
theorem scPBrings : FnScope ["letter"] ["letter"] (defScope sPBrings) := ⟨rfl, rfl, rfl, by decide +kernel, rfl, by decide +kernel, by decide +kernel⟩
theorem ok_brings {f : Addr} {fd : FuncData} (F : Fun K "brings_words" "brings_words" sPBrings f fd) (T : Tx K mg aC cN) : FnOk P w K mg base CX0 1 f fd ["letter"] spBrings := by
  refine F.ok scPBrings (fun vs H Q E h => ?_) (fun cdv A outer s H vs Q E hr h => ?_)
  · obtain ⟨x, l, rfl, _⟩ := h
    rfl
  · obtain ⟨x, l, rfl, hx, q⟩ := h
    obtain ⟨t, u1, u2, u3, u4, rfl, ht, d1, d2, d3, d4⟩ := DT.four hx
    obtain rfl := d1.strI
    apply body_of
    (conv => arg 2; whnf)
    with_reducible
      apply q_last
      apply q_ret
      apply q_and
      apply q_cmp
      apply q_ix
      apply q_var (i := 0)
      with_unfolding_all first | exact ⟨rfl, Or.inl rfl, by decide, by decide⟩ | exact ⟨rfl, Or.inr (Or.inl rfl), by decide, by decide⟩ | exact ⟨rfl, Or.inr (Or.inr rfl), by decide, by decide⟩
      apply q_int
      with_unfolding_all exact ⟨kix (K := K) rfl, fun _ _ => rfl⟩
      apply q_gref
      with_unfolding_all exact ⟨T.CALLED_IN, rfl, by decide⟩
      with_unfolding_all exact ⟨kinB (K := K) rfl hr.units, rfl⟩
      apply q_one
      apply q_cmp
      apply q_ix
      apply q_var (i := 0)
      with_unfolding_all first | exact ⟨rfl, Or.inl rfl, by decide, by decide⟩ | exact ⟨rfl, Or.inr (Or.inl rfl), by decide, by decide⟩ | exact ⟨rfl, Or.inr (Or.inr rfl), by decide, by decide⟩
      apply q_int
      with_unfolding_all exact ⟨kix (K := K) rfl, fun _ _ => rfl⟩
      apply q_non
      with_unfolding_all exact ⟨op_notN, nomark _⟩
    unfold brB at q
    refine ⟨_, rfl, .inr (.inl ⟨t, _, _, _, rfl, rfl, SqT.of ht, at_nat (j := 0) rfl rfl, .inl (.inl ⟨aC, _, rfl, .inr (T.qC H), rfl, rfl, _, rfl, ?_⟩)⟩)⟩
    rw [in2V]
    refine iteB (fun z => ?_) (fun z => ?_)
    · rw [z, Bool.true_and] at q
      refine ⟨_, rfl, .inr (.inl ⟨t, _, _, _, rfl, rfl, SqT.of ht, at_nat (j := 3) rfl rfl, rfl, ?_⟩)⟩
      rw [d4.wNon, Bool.not_not]
      exact q
    · rw [z, Bool.false_and] at q
      exact q
def pic6 (ss : List Sto) (hs : List Hm) (ls : List LT) : PyData := .tuple [.tuple (ss.map stoD), .tuple (hs.map hmD), .tuple (ls.map ltD)]
def spLast : Sp := fun vs H Q _ => ∃ (x : V) (ss : List Sto) (hs : List Hm) (ls : List LT) (j : Nat) (h : Hm), vs = [x, .int ((j : Nat) : Int)] ∧ DT H x (pic6 ss hs ls) ∧ ss.length ≤ 8 ∧ hs.length ≤ 8 ∧ ls.length ≤ 64 ∧ (∀ s ∈ ss, s.1.length ≤ 8 ∧ ∀ r ∈ s.1, r.1 < hs.length) ∧ hs[j]? = some h ∧
  ∀ y H', Same H H' → DT H' y (wD (lastW (byL (ss.map (·.1)) j) ls j h)) → Q y H'
theorem scPLast : FnScope ["picture", "line", "home", "states", "known"] ["picture", "line"] (defScope sPLast) := ⟨rfl, rfl, rfl, by decide +kernel, rfl, by decide +kernel, by decide +kernel⟩
theorem ok_last {f : Addr} {fd : FuncData} (F : Fun K "last_words" "last_words" sPLast f fd) (Z : Bl mg) (T : Tx K mg aC cN) (C_states_by_line : CalD P w K mg base (CXE P w) 1 "states_by_line" ["picture"] [] spStates) (C_brings_words : CalD P w K mg base (CXE P w) 1 "brings_words" ["letter"] [] spBrings) : FnOk P w K mg base (CXE P w) 2 f fd ["picture", "line"] spLast := by
  refine F.okE scPLast (fun vs H Q E h => ?_) (fun cdv A outer s H vs Q E hr h => ?_)
  · obtain ⟨x, ss, hs, ls, j, h, rfl, _⟩ := h
    rfl
  · obtain ⟨x, ss, hs, ls, j, ⟨ws, wr⟩, rfl, hx, o1, o2, o3, o4, eh, q⟩ := h
    have nd := scPLast.nd
    have hx0 := hx
    have hj : j < hs.length := (List.getElem?_eq_some_iff.mp eh).1
    obtain ⟨t, u1, u2, u3, rfl, ht, d1, d2, d3⟩ := hx.three
    obtain ⟨t2, xs2, rfl, e2, r2⟩ := d2.tupI
    obtain ⟨t3, xs3, rfl, e3, r3⟩ := d3.tupI
    have l2 : xs2.length = hs.length := by rw [r2.length, List.length_map]
    have l3 : xs3.length = ls.length := by rw [r3.length, List.length_map]
    obtain ⟨hx1, ehx, dh⟩ := r2.at (i := j) (d := hmD (ws, wr)) (by rw [List.getElem?_map, eh]; rfl)
    obtain ⟨t5, v1, v2, v3, v4, v5, rfl, ht5, g1, g2, g3, g4, g5⟩ := DT.five dh
    obtain ⟨t6, xs6, rfl, e6, r6⟩ := g1.tupI
    obtain rfl := wrV_of g2
    have p1000 : (1000 : Nat) < sizeLine := by decide
    apply body_of
    (conv => arg 2; whnf)
    with_reducible
      apply q_then
      apply q_if
      apply q_tnot
      apply q_tchain
      apply q_int
      apply q_var (i := 1)
      with_unfolding_all first | exact ⟨rfl, Or.inl rfl, by decide, by decide⟩ | exact ⟨rfl, Or.inr (Or.inl rfl), by decide, by decide⟩ | exact ⟨rfl, Or.inr (Or.inr rfl), by decide, by decide⟩
      apply q_cb
      apply q_cons
      apply q_ix
      apply q_var (i := 0)
      with_unfolding_all first | exact ⟨rfl, Or.inl rfl, by decide, by decide⟩ | exact ⟨rfl, Or.inr (Or.inl rfl), by decide, by decide⟩ | exact ⟨rfl, Or.inr (Or.inr rfl), by decide, by decide⟩
      apply q_int
      with_unfolding_all exact ⟨kix (K := K) rfl, fun _ _ => rfl⟩
      apply q_nil
      with_unfolding_all exact rfl
      with_unfolding_all exact ⟨klen (K := K) rfl, Z.len, bb_len, rfl, rfl, by decide, by decide⟩
      with_unfolding_all exact ⟨op_le, op_lt, rfl⟩
      apply q_last
      apply q_raise
      apply q_cons
      apply q_str
      apply q_nil
      with_unfolding_all exact rfl
      with_unfolding_all exact ⟨rfl, thrown_cx, rfl, T.NoPlace, T.x_NoPlace, rfl, by decide⟩
      apply q_end
      apply q_then
      apply q_set (i := 2)
      apply q_ix
      apply q_ix
      apply q_var (i := 0)
      with_unfolding_all first | exact ⟨rfl, Or.inl rfl, by decide, by decide⟩ | exact ⟨rfl, Or.inr (Or.inl rfl), by decide, by decide⟩ | exact ⟨rfl, Or.inr (Or.inr rfl), by decide, by decide⟩
      apply q_int
      with_unfolding_all exact ⟨kix (K := K) rfl, fun _ _ => rfl⟩
      apply q_var (i := 1)
      with_unfolding_all first | exact ⟨rfl, Or.inl rfl, by decide, by decide⟩ | exact ⟨rfl, Or.inr (Or.inl rfl), by decide, by decide⟩ | exact ⟨rfl, Or.inr (Or.inr rfl), by decide, by decide⟩
      with_unfolding_all exact ⟨kix (K := K) rfl, fun _ _ => rfl⟩
      with_unfolding_all exact ⟨nd, rfl, Or.inr rfl, rfl, Or.inl rfl⟩
      apply q_then
      apply q_set (i := 3)
      apply q_ix
      apply q_call
      apply q_cons
      apply q_var (i := 0)
      with_unfolding_all first | exact ⟨rfl, Or.inl rfl, by decide, by decide⟩ | exact ⟨rfl, Or.inr (Or.inl rfl), by decide, by decide⟩ | exact ⟨rfl, Or.inr (Or.inr rfl), by decide, by decide⟩
      apply q_nil
      with_unfolding_all exact rfl
      with_unfolding_all exact ⟨C_states_by_line, hr.mono (by decide), rfl, passes_cx, rfl, by decide⟩
      apply q_var (i := 1)
      with_unfolding_all first | exact ⟨rfl, Or.inl rfl, by decide, by decide⟩ | exact ⟨rfl, Or.inr (Or.inl rfl), by decide, by decide⟩ | exact ⟨rfl, Or.inr (Or.inr rfl), by decide, by decide⟩
      with_unfolding_all exact ⟨kix (K := K) rfl, fun _ _ => rfl⟩
      with_unfolding_all exact ⟨nd, rfl, Or.inl rfl, rfl, Or.inl rfl⟩
      apply q_then
      apply q_setcompT (N' := ["near", "kind", "words"]) (ix := [none, none, none]) (i := 4)
      apply q_iseq (K := K)
      apply q_var (i := 3)
      with_unfolding_all first | exact ⟨rfl, Or.inl rfl, by decide, by decide⟩ | exact ⟨rfl, Or.inr (Or.inl rfl), by decide, by decide⟩ | exact ⟨rfl, Or.inr (Or.inr rfl), by decide, by decide⟩
      with_unfolding_all exact rfl
      intro cl C s2 H2 fp
      apply q_gtup (K := K)
      apply q_gcons
      apply q_name (i := 0)
      with_unfolding_all exact ⟨(show List.Nodup (["near", "kind", "words"] : List Str) from by decide +kernel), rfl, Or.inl rfl, Or.inr rfl⟩
      apply q_gcons
      apply q_name (i := 1)
      with_unfolding_all exact ⟨(show List.Nodup (["near", "kind", "words"] : List Str) from by decide +kernel), rfl, Or.inl rfl, Or.inr rfl⟩
      apply q_gcons
      apply q_name (i := 2)
      with_unfolding_all exact ⟨(show List.Nodup (["near", "kind", "words"] : List Str) from by decide +kernel), rfl, Or.inl rfl, Or.inr rfl⟩
      apply q_gnil
      with_unfolding_all exact rfl
      with_unfolding_all exact rfl
      with_unfolding_all exact rfl
      with_unfolding_all exact ⟨rfl, rfl, rfl⟩
      intro cl C s2 H2 fp
      apply q_ifone
      apply q_tcmp
      apply q_var (i := 1)
      with_unfolding_all first | exact ⟨rfl, Or.inl rfl, by decide, by decide⟩ | exact ⟨rfl, Or.inr (Or.inl rfl), by decide, by decide⟩ | exact ⟨rfl, Or.inr (Or.inr rfl), by decide, by decide⟩
      apply q_str
      with_unfolding_all exact ⟨keq (K := K) rfl hr.units, nomark _⟩
      intro cl C s2 H2 fp
      apply q_var (i := 2)
      with_unfolding_all first | exact ⟨rfl, Or.inl rfl, by decide, by decide⟩ | exact ⟨rfl, Or.inr (Or.inl rfl), by decide, by decide⟩ | exact ⟨rfl, Or.inr (Or.inr rfl), by decide, by decide⟩
      with_unfolding_all exact ⟨by kernel_rfl, rfl, nd, rfl, rfl, fun _ => rfl, rfl⟩
      apply q_then
      apply q_set (i := 4)
      apply q_op
      apply q_var (i := 4)
      with_unfolding_all first | exact ⟨rfl, Or.inl rfl, by decide, by decide⟩ | exact ⟨rfl, Or.inr (Or.inl rfl), by decide, by decide⟩ | exact ⟨rfl, Or.inr (Or.inr rfl), by decide, by decide⟩
      apply q_comp (N' := ["line", "letter"]) (ix := [some 1, none]) (i0 := 1)
      apply q_iseq (K := K)
      apply q_ix
      apply q_var (i := 0)
      with_unfolding_all first | exact ⟨rfl, Or.inl rfl, by decide, by decide⟩ | exact ⟨rfl, Or.inr (Or.inl rfl), by decide, by decide⟩ | exact ⟨rfl, Or.inr (Or.inr rfl), by decide, by decide⟩
      apply q_int
      with_unfolding_all exact ⟨kix (K := K) rfl, fun _ _ => rfl⟩
      with_unfolding_all exact rfl
      intro cl C s2 H2 fp
      apply q_ifone
      apply q_bool
      apply q_wand
      apply q_tcmp
      apply q_ix
      apply q_var (i := 1)
      with_unfolding_all first | exact ⟨rfl, Or.inl rfl, by decide, by decide⟩ | exact ⟨rfl, Or.inr (Or.inl rfl), by decide, by decide⟩ | exact ⟨rfl, Or.inr (Or.inr rfl), by decide, by decide⟩
      apply q_int
      with_unfolding_all exact ⟨kix (K := K) rfl, fun _ _ => rfl⟩
      apply q_var (i := 0)
      with_unfolding_all first | exact ⟨rfl, Or.inl rfl, by decide, by decide⟩ | exact ⟨rfl, Or.inr (Or.inl rfl), by decide, by decide⟩ | exact ⟨rfl, Or.inr (Or.inr rfl), by decide, by decide⟩
      with_unfolding_all exact ⟨keq (K := K) rfl hr.units, nomark _⟩
      apply q_wand1
      apply q_tv
      apply q_call
      apply q_cons
      apply q_var (i := 1)
      with_unfolding_all first | exact ⟨rfl, Or.inl rfl, by decide, by decide⟩ | exact ⟨rfl, Or.inr (Or.inl rfl), by decide, by decide⟩ | exact ⟨rfl, Or.inr (Or.inr rfl), by decide, by decide⟩
      apply q_nil
      with_unfolding_all exact rfl
      with_unfolding_all exact ⟨C_brings_words, hr.mono (by decide), rfl, passes_none, rfl, by decide⟩
      with_unfolding_all exact fun _ => rfl
      intro cl C s2 H2 fp
      apply q_ix
      apply q_var (i := 1)
      with_unfolding_all first | exact ⟨rfl, Or.inl rfl, by decide, by decide⟩ | exact ⟨rfl, Or.inr (Or.inl rfl), by decide, by decide⟩ | exact ⟨rfl, Or.inr (Or.inr rfl), by decide, by decide⟩
      apply q_int
      with_unfolding_all exact ⟨kix (K := K) rfl, fun _ _ => rfl⟩
      with_unfolding_all exact ⟨by kernel_rfl, rfl, rfl, rfl, rfl, fun _ => rfl⟩
      with_unfolding_all exact kaddB (K := K) rfl
      with_unfolding_all exact ⟨nd, rfl, Or.inl rfl, rfl, Or.inl rfl⟩
      apply q_then
      apply q_set (i := 4)
      apply q_op
      apply q_var (i := 4)
      with_unfolding_all first | exact ⟨rfl, Or.inl rfl, by decide, by decide⟩ | exact ⟨rfl, Or.inr (Or.inl rfl), by decide, by decide⟩ | exact ⟨rfl, Or.inr (Or.inr rfl), by decide, by decide⟩
      apply q_compT (N' := ["home", "near", "kind", "words"]) (ix := [some 2, none, none, none])
      apply q_iseq (K := K)
      apply q_var (i := 3)
      with_unfolding_all first | exact ⟨rfl, Or.inl rfl, by decide, by decide⟩ | exact ⟨rfl, Or.inr (Or.inl rfl), by decide, by decide⟩ | exact ⟨rfl, Or.inr (Or.inr rfl), by decide, by decide⟩
      with_unfolding_all exact rfl
      intro cl C s2 H2 fp
      apply q_gtup (K := K)
      apply q_gcons
      apply q_name (i := 1)
      with_unfolding_all exact ⟨(show List.Nodup (["home", "near", "kind", "words"] : List Str) from by decide +kernel), rfl, Or.inl rfl, Or.inr rfl⟩
      apply q_gcons
      apply q_name (i := 2)
      with_unfolding_all exact ⟨(show List.Nodup (["home", "near", "kind", "words"] : List Str) from by decide +kernel), rfl, Or.inl rfl, Or.inr rfl⟩
      apply q_gcons
      apply q_name (i := 3)
      with_unfolding_all exact ⟨(show List.Nodup (["home", "near", "kind", "words"] : List Str) from by decide +kernel), rfl, Or.inl rfl, Or.inr rfl⟩
      apply q_gnil
      with_unfolding_all exact rfl
      with_unfolding_all exact rfl
      with_unfolding_all exact rfl
      with_unfolding_all exact ⟨rfl, rfl, rfl⟩
      intro cl C s2 H2 fp
      apply q_ifone
      apply q_bool
      apply q_wand
      apply q_tcmp
      apply q_var (i := 1)
      with_unfolding_all first | exact ⟨rfl, Or.inl rfl, by decide, by decide⟩ | exact ⟨rfl, Or.inr (Or.inl rfl), by decide, by decide⟩ | exact ⟨rfl, Or.inr (Or.inr rfl), by decide, by decide⟩
      apply q_ix
      apply q_var (i := 0)
      with_unfolding_all first | exact ⟨rfl, Or.inl rfl, by decide, by decide⟩ | exact ⟨rfl, Or.inr (Or.inl rfl), by decide, by decide⟩ | exact ⟨rfl, Or.inr (Or.inr rfl), by decide, by decide⟩
      apply q_int
      with_unfolding_all exact ⟨kix (K := K) rfl, fun _ _ => rfl⟩
      with_unfolding_all exact ⟨keq (K := K) rfl hr.units, nomark _⟩
      apply q_wand1
      apply q_tcmp
      apply q_var (i := 2)
      with_unfolding_all first | exact ⟨rfl, Or.inl rfl, by decide, by decide⟩ | exact ⟨rfl, Or.inr (Or.inl rfl), by decide, by decide⟩ | exact ⟨rfl, Or.inr (Or.inr rfl), by decide, by decide⟩
      apply q_str
      with_unfolding_all exact ⟨keq (K := K) rfl hr.units, nomark _⟩
      intro cl C s2 H2 fp
      apply q_var (i := 3)
      with_unfolding_all first | exact ⟨rfl, Or.inl rfl, by decide, by decide⟩ | exact ⟨rfl, Or.inr (Or.inl rfl), by decide, by decide⟩ | exact ⟨rfl, Or.inr (Or.inr rfl), by decide, by decide⟩
      with_unfolding_all exact ⟨by kernel_rfl, rfl, fun _ => rfl⟩
      with_unfolding_all exact kaddB (K := K) rfl
      with_unfolding_all exact ⟨nd, rfl, Or.inl rfl, rfl, Or.inl rfl⟩
      apply q_last
      apply q_ret
      apply q_ix
      apply q_op
      apply q_var (i := 4)
      with_unfolding_all first | exact ⟨rfl, Or.inl rfl, by decide, by decide⟩ | exact ⟨rfl, Or.inr (Or.inl rfl), by decide, by decide⟩ | exact ⟨rfl, Or.inr (Or.inr rfl), by decide, by decide⟩
      apply q_lstA
      apply q_cons
      apply q_ix
      apply q_var (i := 2)
      with_unfolding_all first | exact ⟨rfl, Or.inl rfl, by decide, by decide⟩ | exact ⟨rfl, Or.inr (Or.inl rfl), by decide, by decide⟩ | exact ⟨rfl, Or.inr (Or.inr rfl), by decide, by decide⟩
      apply q_int
      with_unfolding_all exact ⟨kix (K := K) rfl, fun _ _ => rfl⟩
      apply q_nil
      with_unfolding_all exact rfl
      with_unfolding_all exact kaddB (K := K) rfl
      apply q_int
      with_unfolding_all exact ⟨kix (K := K) rfl, fun _ _ => rfl⟩
    refine ⟨_, rfl, _, _, rfl, rfl, _, rfl, ?_⟩
    rw [if_pos (decide_eq_true (by omega))]
    refine ⟨_, rfl, .inr (.inl ⟨t, _, _, _, rfl, rfl, SqT.of ht, at_nat (j := 1) rfl rfl, .inl ⟨t2, _, rfl, .inr (SqT.of e2), _, _, rfl, rfl, _, rfl, ?_⟩⟩)⟩
    rw [l2, decide_eq_true (show ((j : Nat) : Int) < ((hs.length : Nat) : Int) by omega)]
    refine iteF (next_ ?_)
    dsimp only
    refine ⟨_, rfl, .inr (.inl ⟨t, _, _, _, rfl, rfl, SqT.of ht, at_nat (j := 1) rfl rfl, _, rfl, .inr (.inl ⟨t2, _, _, _, rfl, rfl, SqT.of e2, at_nat (j := j) ehx rfl, ?_⟩)⟩)⟩
    dsimp only [gName]
    refine st_norm (σ' := [some (.ref t), some (.int ((j : Nat) : Int)), some (.ref t5), none, none]) rfl ?_
    refine ⟨_, rfl, .ref t, ss, hs.map hmD, .tuple (ls.map ltD), rfl, hx0, by omega, by rw [List.length_map]; omega, fun s m => ⟨by have := (o4 s m).1; omega, by rw [List.length_map]; exact (o4 s m).2⟩, fun q1 ps H1 s1 h1 e1 l1 hR => ?_⟩
    rw [List.length_map] at l1
    obtain ⟨p, ep⟩ : ∃ p, ps[j]? = some p := ⟨_, List.getElem?_eq_getElem (by omega)⟩
    obtain ⟨xs, hp, hd⟩ := hR j p ep
    have hps : (ps.map V.ref)[j]? = some (.ref p) := by rw [List.getElem?_map, ep]; rfl
    have hbl : (byL (ss.map (·.1)) j).length ≤ 64 := by
      have b1 := byL_len (ss := ss.map (·.1)) (c := 8) (fun rows h => by obtain ⟨s, m, rfl⟩ := List.mem_map.mp h; exact (o4 s m).1) j ss.length
      rw [← List.length_map (f := fun s : Sto => s.1) (as := ss), List.take_length, List.length_map] at b1
      omega
    generalize hrs : byL (ss.map (·.1)) j = rs at hd hbl q
    have xl : xs.length = rs.length := by rw [hd.length, List.length_map]
    refine ⟨_, rfl, .inl ⟨q1, _, _, _, rfl, rfl, SqL.of e1, at_nat (j := j) hps rfl, ?_⟩⟩
    dsimp only [gName]
    refine st_norm (σ' := [some (.ref t), some (.int ((j : Nat) : Int)), some (.ref t5), some (.ref p), none]) rfl ?_
    refine .inl ⟨_, rfl, p, rfl, ⟨_, SqL.of hp⟩, fun D hD0 => comp_lDT (K := K) f1 hD0 (SqL.of hp) (by omega) hd (fun i x d H2 Qy Qn ed hx sm hy hn => ?_) fun H2 ys s2 hys f2' => ?_⟩
    · obtain ⟨r, rfl⟩ : ∃ r, d = r3D r := by
        obtain ⟨r, _, e⟩ := List.mem_map.mp (List.mem_of_getElem? ed)
        exact ⟨r, e.symm⟩
      obtain ⟨b, b1, b2, b3, rfl, hb, c1, c2, c3⟩ := hx.three
      obtain rfl := c1.intI
      obtain rfl := c2.strI
      refine ⟨b, _, rfl, SqT.of hb, rfl, _, _, rfl, _, _, rfl, _, _, rfl, rfl, ⟨rfl, fun k v z => ?_⟩, _, rfl, .inl ⟨rfl, _, rfl, iteS (fun z => ⟨_, rfl, hy H2 _ _ (Same.refl _) (if_pos z) c3⟩) (fun z => hn H2 (Same.refl _) (if_neg z))⟩⟩
      match k, z with
      | 0, z => cases z
      | 1, z => cases z
      | 2, z => cases z
    rw [f1_map] at hys
    have yl : ys.length ≤ 64 := by
      rw [hys.length, List.length_map]
      unfold k1
      rw [List.length_map]
      exact Nat.le_trans (List.length_filter_le _ _) hbl
    refine st_norm (σ' := [some (.ref t), some (.int ((j : Nat) : Int)), some (.ref t5), some (.ref p), some (.ref D)]) rfl ?_
    dsimp only
    have s02 := s1.trans s2
    refine ⟨_, rfl, .inr ⟨_, rfl, .inr (.inl ⟨t, _, _, _, rfl, rfl, SqT.of (s02 _ _ ht), at_nat (j := 2) rfl rfl, t3, rfl, ⟨_, SqT.of (s02 _ _ e3)⟩, fun D2 hD2 => comp_tD (K := K) (f2 j) hD2 (SqT.of (s02 _ _ e3)) (by omega) (r3.keep s02) (fun i x d H3 Qy Qn ed hx sm hy hn => ?_) fun H3 ys3 s3 hys3 f3' => ?_⟩)⟩⟩
    · obtain ⟨l, rfl⟩ : ∃ l, d = ltD l := by
        obtain ⟨r, _, e⟩ := List.mem_map.mp (List.mem_of_getElem? ed)
        exact ⟨r, e.symm⟩
      have hx9 := hx
      obtain ⟨b, b1, b2, b3, b4, rfl, hb, c1, c2, c3, c4⟩ := DT.four hx
      obtain rfl := c1.strI
      obtain rfl := c2.intI
      have fr := f2_r j l
      refine ⟨_, rfl, .inr (.inl ⟨b, _, _, _, rfl, rfl, SqT.of hb, at_nat (j := 1) rfl rfl, _, rfl, .inl ⟨rfl, _, rfl, iteEq (fun z => ?_) (fun z => ?_)⟩⟩)⟩
      · have hz : l.2.1 = j := by omega
        rw [decide_eq_true hz, Bool.true_and] at fr
        refine ⟨_, rfl, _, l, rfl, hx9, _, rfl, iteB (fun y => ?_) (fun y => ?_)⟩
        · rw [if_pos y] at fr
          exact ⟨_, rfl, .inr (.inl ⟨b, _, _, _, rfl, rfl, SqT.of hb, at_nat (j := 3) rfl rfl, hy H3 _ _ (Same.refl _) fr c4⟩)⟩
        · rw [if_neg (by rw [y]; exact Bool.false_ne_true)] at fr
          exact hn H3 (Same.refl _) fr
      · rw [decide_eq_false (fun h => z (by rw [h])), Bool.false_and, if_neg Bool.false_ne_true] at fr
        exact iteF (hn H3 (Same.refl _) fr)
    rw [f2_map] at hys3
    have yl3 : ys3.length ≤ 64 := by
      rw [hys3.length, List.length_map]
      unfold k2
      rw [List.length_map]
      exact Nat.le_trans (List.length_filter_le _ _) o3
    refine .inr (.inr (.inl ⟨D, D2, _, _, rfl, rfl, s3 _ _ f2', f3', Nat.le_of_lt (small1000 (by omega)), fun D3 H4 n4 => ?_⟩))
    dsimp only [gName]
    refine st_norm (σ' := [some (.ref t), some (.int ((j : Nat) : Int)), some (.ref t5), some (.ref p), some (.ref D3)]) rfl ?_
    have s14 := s2.trans (s3.trans n4.2.1)
    have s04 := s1.trans s14
    have hp4 := s14 _ _ hp
    refine ⟨_, rfl, .inl ⟨_, rfl, p, rfl, ⟨_, SqL.of hp4⟩, fun D4 hD4 => comp_lDT (K := K) (f3 wr) hD4 (SqL.of hp4) (by omega) (hd.keep s14) (fun i x d H5 Qy Qn ed hx sm hy hn => ?_) fun H5 ys5 s5 hys5 f5' => ?_⟩⟩
    · obtain ⟨r, rfl⟩ : ∃ r, d = r3D r := by
        obtain ⟨r, _, e⟩ := List.mem_map.mp (List.mem_of_getElem? ed)
        exact ⟨r, e.symm⟩
      obtain ⟨b, b1, b2, b3, rfl, hb, c1, c2, c3⟩ := hx.three
      obtain rfl := c1.intI
      obtain rfl := c2.strI
      have fr := f3_r wr r
      have ht5' := (s04.trans sm) _ _ ht5
      refine ⟨b, _, rfl, SqT.of hb, rfl, _, _, rfl, _, _, rfl, _, _, rfl, rfl, ⟨rfl, fun k v z => ?_⟩, _, rfl, _, rfl, .inr (.inl ⟨t5, _, _, _, rfl, rfl, SqT.of ht5', at_nat (j := 1) rfl rfl, ?_⟩)⟩
      · match k, z with
        | 0, z => exact z
        | 1, z => cases z
        | 2, z => cases z
        | 3, z => cases z
      have dw : decide (V.int ((r.1 : Nat) : Int) = wrV wr) = decide (some r.1 = wr) := by
        refine decide_eq_decide.mpr ?_
        cases wr with
        | none => exact ⟨(fun z => by cases z), (fun z => by cases z)⟩
        | some m =>
          refine ⟨fun z => ?_, fun z => ?_⟩
          · have : ((r.1 : Nat) : Int) = ((m : Nat) : Int) := by injection z
            congr 1
            omega
          · rw [Option.some.inj z]
            rfl
      refine .inl ⟨by cases wr <;> rfl, _, rfl, ?_⟩
      dsimp only
      rw [dw]
      refine iteB (fun z => ?_) (fun z => ?_)
      · rw [z, Bool.true_and] at fr
        unfold isLw at fr
        refine ⟨_, rfl, .inl ⟨rfl, _, rfl, iteS (fun y => ?_) (fun y => ?_)⟩⟩
        · rw [if_pos (decide_eq_true y)] at fr
          exact ⟨_, rfl, hy H5 _ _ (Same.refl _) fr c3⟩
        · rw [if_neg (by rw [decide_eq_false y]; exact Bool.false_ne_true)] at fr
          exact hn H5 (Same.refl _) fr
      · rw [z, Bool.false_and, if_neg Bool.false_ne_true] at fr
        exact iteF (hn H5 (Same.refl _) fr)
    rw [f3_map] at hys5
    have yl5 : ys5.length ≤ 64 := by
      rw [hys5.length, List.length_map]
      unfold k3
      rw [List.length_map]
      exact Nat.le_trans (List.length_filter_le _ _) hbl
    refine .inr (.inr (.inl ⟨D3, D4, _, _, rfl, rfl, s5 _ _ n4.2.2, f5', Nat.le_of_lt (small1000 (by rw [List.length_append]; omega)), fun D5 H6 n6 => ?_⟩))
    dsimp only [gName]
    refine st_norm (σ' := [some (.ref t), some (.int ((j : Nat) : Int)), some (.ref t5), some (.ref p), some (.ref D5)]) rfl ?_
    have s06 := s04.trans (s5.trans n6.2.1)
    refine ⟨_, rfl, _, rfl, .inr (.inl ⟨t5, _, _, _, rfl, rfl, SqT.of (s06 _ _ ht5), at_nat (j := 0) rfl rfl, (by show 1 ≤ sizeLine; decide), fun D6 H7 n7 => .inr (.inr (.inl ⟨D5, D6, _, _, rfl, rfl, n7.2.1 _ _ n6.2.2, n7.2.2, Nat.le_of_lt (small1000 (by simp only [List.length_append, List.length_cons, List.length_nil]; omega)), fun D7 H8 n8 => ?_⟩))⟩)⟩
    have s08 := s06.trans (n7.2.1.trans n8.2.1)
    have dl : DTs H8 (((ys ++ ys3) ++ ys5) ++ [V.ref t6]) ((lastL rs ls j (ws, wr)).map wD) := by
      unfold lastL
      rw [List.map_append, List.map_append, List.map_append]
      refine DTs.append (DTs.append (DTs.append (hys.keep (s3.trans (n4.2.1.trans (s5.trans (n6.2.1.trans (n7.2.1.trans n8.2.1)))))) (hys3.keep (n4.2.1.trans (s5.trans (n6.2.1.trans (n7.2.1.trans n8.2.1)))))) (hys5.keep (n6.2.1.trans (n7.2.1.trans n8.2.1)))) (.cons (g1.keep s08) .nil)
    have hne : lastL rs ls j (ws, wr) ≠ [] := by
      unfold lastL
      simp
    obtain ⟨w0, rest, ew⟩ : ∃ w0 rest, lastL rs ls j (ws, wr) = w0 :: rest := by
      cases h : lastL rs ls j (ws, wr) with
      | nil => exact absurd h hne
      | cons a b => exact ⟨a, b, rfl⟩
    obtain ⟨y, ey, dy⟩ := dl.at (i := 0) (d := wD w0) (by rw [ew]; rfl)
    refine .inl ⟨D7, _, _, _, rfl, rfl, SqL.of n8.2.2, at_nat (j := 0) ey rfl, q y H8 s08 ?_⟩
    unfold lastW
    rw [ew]
    exact dy
end
end K66

set_option Elab.async false
set_option linter.all false
set_option maxRecDepth 100000
set_option maxHeartbeats 1000000
namespace K66
open PySem L2
/-! ### reckoning -/
def atL (row : List C2) (wr : Option Nat) : List Wd := match wr with
  | none => []
  | some n => match row[n]? with
    | some c => if isLw c = true then [c.2] else []
    | none => []
def dueL (row : List C2) (ls : List LT) (h : Hm) : List Wd := (row.filter isWr).map (·.2) ++ (ls.filter brB).map (·.2.2.2) ++ atL row h.2 ++ [some h.1]
def dueW (row : List C2) (ls : List LT) (h : Hm) : Wd := (dueL row ls h).head?.getD none
theorem w_na : ¬ ("away" : Str) = "writer" := by decide +kernel
theorem l_na : ¬ ("away" : Str) = "leaving writer" := by decide +kernel
theorem k1_app (a b : List R3) : k1 (a ++ b) = k1 a ++ k1 b := by unfold k1; rw [List.filter_append, List.map_append]
theorem k3_app (a b : List R3) (w : Option Nat) : k3 (a ++ b) w = k3 a w ++ k3 b w := by unfold k3; rw [List.filter_append, List.map_append]
theorem k2_app (a b : List LT) (j : Nat) : k2 (a ++ b) j = k2 a j ++ k2 b j := by unfold k2; rw [List.filter_append, List.map_append]
theorem k1_row (row : List C2) : ∀ n, n ≤ row.length → k1 ((List.range n).filterMap (rowF row)) = ((row.take n).filter isWr).map (·.2)
  | 0, _ => by simp [k1]
  | n + 1, h => by
    have e : row[n]? = some (row[n]'(by omega)) := List.getElem?_eq_getElem (by omega)
    rw [take_range, k1_app, k1_row row n (by omega), List.take_add_one, e, Option.toList_some, List.filter_append, List.map_append]
    congr 1
    unfold rowF k1
    rw [e, Option.bind_some]
    generalize row[n]'(by omega) = c
    by_cases z : c.1 = ("away" : Str)
    · have : isWr c = false := by unfold isWr; rw [z]; exact decide_eq_false w_na
      simp [z, this]
    · cases hw : isWr c <;> simp [z, hw]
theorem k3_row (row : List C2) (wr : Option Nat) : ∀ n, n ≤ row.length → k3 ((List.range n).filterMap (rowF row)) wr = match wr with
    | none => []
    | some m => if m < n then atL row (some m) else []
  | 0, _ => by cases wr <;> simp [k3]
  | n + 1, h => by
    have e : row[n]? = some (row[n]'(by omega)) := List.getElem?_eq_getElem (by omega)
    rw [take_range, k3_app, k3_row row wr n (by omega)]
    unfold rowF
    rw [e, Option.bind_some]
    cases wr with
    | none =>
      unfold k3
      simp
    | some m =>
      dsimp only
      by_cases hm : m = n
      · subst hm
        rw [if_neg (Nat.lt_irrefl m), if_pos (Nat.lt_succ_self m), List.nil_append]
        unfold atL
        dsimp only
        rw [e]
        dsimp only
        generalize row[m]'(by omega) = c
        unfold k3
        by_cases z : c.1 = ("away" : Str)
        · have : isLw c = false := by unfold isLw; rw [z]; exact decide_eq_false l_na
          simp [z, this]
        · cases hw : isLw c <;> simp [z, hw]
      · have : k3 (if (row[n]'(by omega)).1 = ("away" : Str) then none else some (n, row[n]'(by omega)) : Option R3).toList (some m) = [] := by
          unfold k3
          by_cases z : (row[n]'(by omega)).1 = ("away" : Str)
          · simp [z]
          · have hn : ¬ n = m := fun z => hm z.symm
            simp [z, hn]
        rw [this, List.append_nil]
        by_cases h2 : m < n
        · rw [if_pos h2, if_pos (by omega)]
        · rw [if_neg h2, if_neg (by omega)]
theorem k2_own {ls : List LT} {i : Nat} (h : ∀ l ∈ ls, l.2.1 = i) : k2 ls i = (ls.filter brB).map (·.2.2.2) := by
  unfold k2
  congr 1
  refine List.filter_congr fun l hl => ?_
  rw [decide_eq_true (h l hl), Bool.true_and]
theorem k2_none {ls : List LT} {i : Nat} (h : ∀ l ∈ ls, l.2.1 ≠ i) : k2 ls i = [] := by
  unfold k2
  have : ls.filter (fun l => decide (l.2.1 = i) && brB l) = [] := List.filter_eq_nil_iff.mpr fun l hl => by
    rw [decide_eq_false (h l hl)]
    simp
  rw [this]
  rfl
theorem due_last {row : List C2} {ls lsi : List LT} {i : Nat} {h : Hm} (h1 : ∀ l ∈ ls, l.2.1 ≠ i) (h2 : ∀ l ∈ lsi, l.2.1 = i) (h3 : ∀ n, h.2 = some n → n < row.length) : dueW row lsi h = lastW (rowsOf row) (ls ++ lsi) i h := by
  unfold dueW lastW dueL lastL rowsOf
  rw [k1_row row _ (Nat.le_refl _), List.take_length, k2_app, k2_none h1, k2_own h2, List.nil_append, k3_row row h.2 _ (Nat.le_refl _)]
  have : (match h.2 with | none => [] | some m => if m < row.length then atL row (some m) else []) = atL row h.2 := by
    cases hh : h.2 with
    | none => rfl
    | some m =>
      dsimp only
      rw [if_pos (h3 m hh)]
  rw [this]
theorem last_keep {rs : List R3} {ls more : List LT} {j : Nat} {h : Hm} (h1 : ∀ l ∈ more, l.2.1 ≠ j) : lastW rs (ls ++ more) j h = lastW rs ls j h := by
  unfold lastW lastL
  rw [k2_app, k2_none h1, List.append_nil]
def RowOk (c : C2) : Prop := isWr c = true ∨ isLw c = true → c.2.isSome = true
theorem head_some {l : List Wd} (h : ∀ w ∈ l, w.isSome = true) (hn : l ≠ []) : ∃ ns, l.head?.getD none = some ns := by
  cases l with
  | nil => exact absurd rfl hn
  | cons a l =>
    have := h a List.mem_cons_self
    cases a with
    | none => cases this
    | some ns => exact ⟨ns, rfl⟩
theorem rows_in {row : List C2} {r : R3} (h : r ∈ rowsOf row) : r.2 ∈ row := by
  obtain ⟨k, hk, e⟩ := List.mem_filterMap.mp h
  unfold rowF at e
  cases hc : row[k]? with
  | none => rw [hc] at e; cases e
  | some c =>
    rw [hc] at e
    by_cases z : c.1 = ("away" : Str)
    · simp [z] at e
    · simp [z] at e
      rw [← e]
      exact List.mem_of_getElem? hc
theorem last_some {row : List C2} {ls : List LT} {j : Nat} {h : Hm} (hr : ∀ c ∈ row, RowOk c) : ∃ ns, lastW (rowsOf row) ls j h = some ns := by
  unfold lastW
  refine head_some (fun w hw => ?_) (by unfold lastL; simp)
  unfold lastL at hw
  rcases List.mem_append.mp hw with hw | hw
  · rcases List.mem_append.mp hw with hw | hw
    · rcases List.mem_append.mp hw with hw | hw
      · obtain ⟨r, hr', rfl⟩ := List.mem_map.mp hw
        obtain ⟨m, hm⟩ := List.mem_filter.mp hr'
        exact hr _ (rows_in m) (.inl hm)
      · obtain ⟨l, hl, rfl⟩ := List.mem_map.mp hw
        obtain ⟨m, hm⟩ := List.mem_filter.mp hl
        unfold brB at hm
        simp only [Bool.and_eq_true] at hm
        exact hm.2.2
    · obtain ⟨r, hr', rfl⟩ := List.mem_map.mp hw
      obtain ⟨m, hm⟩ := List.mem_filter.mp hr'
      rw [Bool.and_eq_true] at hm
      exact hr _ (rows_in m) (.inr hm.2)
  · rw [List.mem_singleton.mp hw]
    rfl
theorem DTs.setC {H : Hp} {v : V} {c : C2} (hv : DT H v (c2D c)) : ∀ {xs : List V} {row : List C2} (j : Nat), DTs H xs (row.map c2D) → DTs H (xs.set j v) ((row.set j c).map c2D)
  | _, [], _, .nil => .nil
  | _, _ :: _, 0, .cons a b => .cons hv b
  | _, _ :: _, j + 1, .cons a b => .cons a (DTs.setC hv j b)
/-! ### stores -/
def storeF (A : List (List C2)) (k l : Nat) : Option R3 := (A[l]?).bind fun row => (row[k]?).bind fun c => if c.1 = ("away" : Str) then none else some (l, c)
def storeRows (A : List (List C2)) (k : Nat) : List R3 := (List.range A.length).filterMap (storeF A k)
theorem pick_store (A : List (List C2)) (i j : Nat) {row : List C2} (h : A[j]? = some row) : pickR i j (storeRows A i) = (rowF row i).toList := by
  unfold pickR storeRows
  rw [List.filterMap_filterMap]
  have : (fun l => (storeF A i l).bind fun r => if r.1 = j then some (i, r.2) else none) = fun l => if l = j then ((A[l]?).bind fun row => rowF row i) else none := by
    funext l
    unfold storeF rowF
    cases A[l]? with
    | none => simp
    | some row =>
      cases e : row[i]? with
      | none => simp [e]
      | some c => by_cases h : c.1 = ("away" : Str) <;> simp [e, h]
  rw [this, filterMap_at, if_pos (List.getElem?_eq_some_iff.mp h).1, h]
  rfl
theorem byL_store (A : List (List C2)) (j : Nat) {row : List C2} (h : A[j]? = some row) (n : Nat) : ∀ i, i ≤ n → byL (((List.range n).map (storeRows A)).take i) j = (List.range i).filterMap (rowF row)
  | 0, _ => by simp [byL]
  | i + 1, hi => by
    have e : ((List.range n).map (storeRows A))[i]? = some (storeRows A i) := by rw [List.getElem?_map, List.getElem?_range (by omega)]; rfl
    rw [byL_take e, byL_store A j h n i (by omega), pick_store A i j h, take_range]
theorem byL_all (A : List (List C2)) (j : Nat) {row : List C2} (h : A[j]? = some row) : byL ((List.range row.length).map (storeRows A)) j = rowsOf row := by
  have := byL_store A j h row.length row.length (Nat.le_refl _)
  rw [List.take_of_length_le (by simp)] at this
  exact this
theorem store_mem {A : List (List C2)} {k : Nat} {r : R3} (h : r ∈ storeRows A k) : r.1 < A.length := by
  obtain ⟨l, hl, e⟩ := List.mem_filterMap.mp h
  unfold storeF at e
  cases ha : A[l]? with
  | none => rw [ha] at e; cases e
  | some row =>
    rw [ha] at e
    cases hc : row[k]? with
    | none => simp [hc] at e
    | some c =>
      by_cases z : c.1 = ("away" : Str)
      · simp [hc, z] at e
      · simp [hc, z] at e
        rw [← e]
        exact List.mem_range.mp hl
theorem store_len (A : List (List C2)) (k : Nat) : (storeRows A k).length ≤ A.length := by
  have := List.length_filterMap_le (storeF A k) (List.range A.length)
  rwa [List.length_range] at this
end K66

set_option Elab.async false
set_option linter.all false
set_option maxRecDepth 100000
set_option maxHeartbeats 1000000
namespace K66
open PySem L2
section
variable {P : Program} {w : World} {K : PySem.W.Frag} {mg : Str → Option Value} {base : Heap} {aC cN : Addr}
def spCellAt (K : PySem.W.Frag) : Sp := fun vs H Q _ => ∃ (a : Addr) (ns : List Int) (k : Nat), vs = [.ref a, .int ((k : Nat) : Int)] ∧ SqL K H a (ns.map V.int) ∧ ∀ z : Int, Q (.int z) H
theorem scCellAt : FnScope ["_law_script", "_law_k"] ["_law_script", "_law_k"] (defScope sCellAt) := ⟨rfl, rfl, rfl, by decide +kernel, rfl, by decide +kernel, by decide +kernel⟩
theorem ok_cellat {f : Addr} {fd : FuncData} (F : Fun K "_law_cell_at" "_law_cell_at" sCellAt f fd) (Z : Bl mg) : FnOk P w K mg base CX0 1 f fd ["_law_script", "_law_k"] (spCellAt K) := by
  refine F.ok scCellAt (fun vs H Q E h => ?_) (fun cdv A outer s H vs Q E hr h => ?_)
  · obtain ⟨a, ns, k, rfl, _⟩ := h
    rfl
  · obtain ⟨a, ns, k, rfl, hS, q⟩ := h
    apply body_of
    (conv => arg 2; whnf)
    with_reducible
      apply q_then
      apply q_if
      apply q_tcmp
      apply q_var (i := 1)
      with_unfolding_all first | exact ⟨rfl, Or.inl rfl, by decide, by decide⟩ | exact ⟨rfl, Or.inr (Or.inl rfl), by decide, by decide⟩ | exact ⟨rfl, Or.inr (Or.inr rfl), by decide, by decide⟩
      apply q_cb
      apply q_cons
      apply q_var (i := 0)
      with_unfolding_all first | exact ⟨rfl, Or.inl rfl, by decide, by decide⟩ | exact ⟨rfl, Or.inr (Or.inl rfl), by decide, by decide⟩ | exact ⟨rfl, Or.inr (Or.inr rfl), by decide, by decide⟩
      apply q_nil
      with_unfolding_all exact rfl
      with_unfolding_all exact ⟨klen (K := K) rfl, Z.len, bb_len, rfl, rfl, by decide, by decide⟩
      with_unfolding_all exact ⟨op_lt, nomark _⟩
      apply q_last
      apply q_ret
      apply q_ix
      apply q_var (i := 0)
      with_unfolding_all first | exact ⟨rfl, Or.inl rfl, by decide, by decide⟩ | exact ⟨rfl, Or.inr (Or.inl rfl), by decide, by decide⟩ | exact ⟨rfl, Or.inr (Or.inr rfl), by decide, by decide⟩
      apply q_var (i := 1)
      with_unfolding_all first | exact ⟨rfl, Or.inl rfl, by decide, by decide⟩ | exact ⟨rfl, Or.inr (Or.inl rfl), by decide, by decide⟩ | exact ⟨rfl, Or.inr (Or.inr rfl), by decide, by decide⟩
      with_unfolding_all exact ⟨kix (K := K) rfl, fun _ _ => rfl⟩
      apply q_end
      apply q_last
      apply q_ret
      apply q_int
    refine ⟨_, rfl, _, rfl, .inl ⟨a, _, rfl, .inl hS, _, _, rfl, rfl, _, rfl, iteD (fun h0 => ?_) (fun h0 => q _)⟩⟩
    rw [List.length_map] at h0
    have hk : k < ns.length := by omega
    have at1 : atI (ns.map V.int) ((k : Nat) : Int) = some (.int (ns[k]'hk)) := at_nat (j := k) (by rw [List.getElem?_map, List.getElem?_eq_getElem hk]; rfl) rfl
    exact ⟨_, rfl, _, rfl, .inl ⟨a, _, _, _, rfl, rfl, hS, at1, q _⟩⟩
def spWords : Sp := fun vs H Q _ => ∃ c k : Int, vs = [.int c, .int k] ∧ ∀ y ns H', Same H H' → DT H' y (wD (some ns)) → Q y H'
theorem scWords : FnScope ["_law_cell", "_law_k"] ["_law_cell", "_law_k"] (defScope sWords) := ⟨rfl, rfl, rfl, by decide +kernel, rfl, by decide +kernel, by decide +kernel⟩
theorem ok_words {f : Addr} {fd : FuncData} (F : Fun K "_law_words" "_law_words" sWords f fd) : FnOk P w K mg base CX0 1 f fd ["_law_cell", "_law_k"] spWords := by
  refine F.ok scWords (fun vs H Q E h => ?_) (fun cdv A outer s H vs Q E hr h => ?_)
  · obtain ⟨c, k, rfl, _⟩ := h
    rfl
  · obtain ⟨c, k, rfl, q⟩ := h
    have p50 : CPow 10 50 := ⟨by decide, by decide, by decide⟩
    have pos50 : (0 : Int) < 10 ^ (50 : Int).toNat := by decide
    apply body_of
    (conv => arg 2; whnf)
    with_reducible
      apply q_last
      apply q_ret
      apply q_tupA
      apply q_cons
      apply q_op
      apply q_op
      apply q_op
      apply q_var (i := 0)
      with_unfolding_all first | exact ⟨rfl, Or.inl rfl, by decide, by decide⟩ | exact ⟨rfl, Or.inr (Or.inl rfl), by decide, by decide⟩ | exact ⟨rfl, Or.inr (Or.inr rfl), by decide, by decide⟩
      apply q_op
      apply q_int
      apply q_int
      with_unfolding_all exact op_pow
      with_unfolding_all exact op_mod
      apply q_int
      with_unfolding_all exact kmul (K := K) rfl
      apply q_var (i := 1)
      with_unfolding_all first | exact ⟨rfl, Or.inl rfl, by decide, by decide⟩ | exact ⟨rfl, Or.inr (Or.inl rfl), by decide, by decide⟩ | exact ⟨rfl, Or.inr (Or.inr rfl), by decide, by decide⟩
      with_unfolding_all exact kaddB (K := K) rfl
      apply q_nil
      with_unfolding_all exact rfl
    exact ⟨_, rfl, _, _, rfl, rfl, p50, _, _, rfl, rfl, pos50, .inl ⟨_, _, rfl, rfl, .inr ⟨by decide, by decide⟩, _, rfl, .inl ⟨_, _, rfl, rfl, (by show 1 ≤ sizeLine; decide), fun p H1 n1 => q (.ref p) [_] H1 n1.2.1 (n1.tup (.cons (.int _) .nil))⟩⟩⟩
def spStatesL : Sp := fun vs H Q _ => ∃ (c : Int) (n : Nat), vs = [.int c, .int ((n : Nat) : Int)] ∧ 1 ≤ n ∧ n ≤ 8 ∧ ∀ q xs (row : List C2) H', Same H H' → H q = none → H' q = some (.lst xs) → DTs H' xs (row.map c2D) → row.length = n → (∀ c ∈ row, RowOk c) → Q (.ref q) H'
theorem scStates : FnScope ["_law_cell", "_law_nears", "_law_mixed", "_law_states_here", "_law_near", "_law_writers", "_law_k"] ["_law_cell", "_law_nears"] (defScope sStates) := ⟨rfl, rfl, rfl, by decide +kernel, rfl, by decide +kernel, by decide +kernel⟩
theorem pickM {H : Hp} {xs : List V} {cs : List C2} (h : DTs H xs (cs.map c2D)) {m : Int} (h0 : 0 ≤ m) (h1 : m < cs.length) : ∃ x cc, atI xs m = some x ∧ cc ∈ cs ∧ DT H x (c2D cc) := by
  obtain ⟨j, rfl⟩ := Int.eq_ofNat_of_zero_le h0
  have hj : j < cs.length := by omega
  obtain ⟨x, e, d⟩ := h.at (i := j) (d := c2D cs[j]) (by rw [List.getElem?_map, List.getElem?_eq_getElem hj]; rfl)
  exact ⟨x, _, at_nat e rfl, List.getElem_mem hj, d⟩
theorem em2 (z m : Int) (h : 0 < m) : ∃ x : Int, x = z % m ∧ 0 ≤ x ∧ x < m := ⟨_, rfl, Int.emod_nonneg _ (by omega), Int.emod_lt_of_pos _ h⟩
theorem ok_aw : RowOk (("away", none) : C2) := fun h => by
  have a : isWr (("away", none) : C2) = false := by unfold isWr; exact decide_eq_false w_na
  have b : isLw (("away", none) : C2) = false := by unfold isLw; exact decide_eq_false l_na
  rw [a, b] at h
  rcases h with h | h <;> cases h
theorem set_ok {row : List C2} {j : Nat} {c : C2} (h : ∀ c ∈ row, RowOk c) (hc : RowOk c) : ∀ d ∈ row.set j c, RowOk d := fun d hd => by
  rcases List.mem_or_eq_of_mem_set hd with h' | h'
  · exact h d h'
  · rw [h']
    exact hc
theorem ok_statesL {f : Addr} {fd : FuncData} (F : Fun K "_law_states" "_law_states" sStates f fd) (Z : Bl mg) (C__law_words : CalD P w K mg base (CXE P w) 1 "_law_words" ["_law_cell", "_law_k"] [] spWords) : FnOk P w K mg base CX0 2 f fd ["_law_cell", "_law_nears"] spStatesL := by
  refine F.ok scStates (fun vs H Q E h => ?_) (fun cdv A outer s H vs Q E hr h => ?_)
  · obtain ⟨c, n, rfl, _⟩ := h
    rfl
  · obtain ⟨c, n, rfl, hn0, hn, q⟩ := h
    have nd := scStates.nd
    have z2 : 2 ≤ sizeLine := by decide
    apply body_of
    (conv => arg 2; whnf)
    with_reducible
      apply q_then
      apply q_set (i := 2)
      apply q_op
      apply q_op
      apply q_var (i := 0)
      with_unfolding_all first | exact ⟨rfl, Or.inl rfl, by decide, by decide⟩ | exact ⟨rfl, Or.inr (Or.inl rfl), by decide, by decide⟩ | exact ⟨rfl, Or.inr (Or.inr rfl), by decide, by decide⟩
      apply q_int
      with_unfolding_all exact kmul (K := K) rfl
      apply q_int
      with_unfolding_all exact op_mod
      with_unfolding_all exact ⟨nd, rfl, Or.inl rfl, rfl, Or.inl rfl⟩
      apply q_then
      apply q_set (i := 3)
      apply q_lstA
      apply q_nil
      with_unfolding_all exact ⟨nd, rfl, Or.inl rfl, rfl, Or.inl rfl⟩
      apply q_then
      apply q_for
      apply q_irange1
      apply q_cons
      apply q_var (i := 1)
      with_unfolding_all first | exact ⟨rfl, Or.inl rfl, by decide, by decide⟩ | exact ⟨rfl, Or.inr (Or.inl rfl), by decide, by decide⟩ | exact ⟨rfl, Or.inr (Or.inr rfl), by decide, by decide⟩
      apply q_nil
      with_unfolding_all exact rfl
      with_unfolding_all exact ⟨Z.range, rfl, rfl⟩
      apply q_name (i := 4)
      with_unfolding_all exact ⟨nd, rfl, Or.inl rfl, Or.inl rfl⟩
      apply q_last
      apply q_expr
      apply q_bm (K := K)
      apply q_var (i := 3)
      with_unfolding_all first | exact ⟨rfl, Or.inl rfl, by decide, by decide⟩ | exact ⟨rfl, Or.inr (Or.inl rfl), by decide, by decide⟩ | exact ⟨rfl, Or.inr (Or.inr rfl), by decide, by decide⟩
      apply q_cons
      apply q_ix
      apply q_lstA
      apply q_cons
      apply q_tupA
      apply q_cons
      apply q_str
      apply q_cons
      apply q_non
      apply q_nil
      with_unfolding_all exact rfl
      with_unfolding_all exact rfl
      apply q_cons
      apply q_tupA
      apply q_cons
      apply q_str
      apply q_cons
      apply q_call
      apply q_cons
      apply q_var (i := 0)
      with_unfolding_all first | exact ⟨rfl, Or.inl rfl, by decide, by decide⟩ | exact ⟨rfl, Or.inr (Or.inl rfl), by decide, by decide⟩ | exact ⟨rfl, Or.inr (Or.inr rfl), by decide, by decide⟩
      apply q_cons
      apply q_var (i := 4)
      with_unfolding_all first | exact ⟨rfl, Or.inl rfl, by decide, by decide⟩ | exact ⟨rfl, Or.inr (Or.inl rfl), by decide, by decide⟩ | exact ⟨rfl, Or.inr (Or.inr rfl), by decide, by decide⟩
      apply q_nil
      with_unfolding_all exact rfl
      with_unfolding_all exact rfl
      with_unfolding_all exact ⟨C__law_words, hr.mono (by decide), rfl, passes_none, rfl, by decide⟩
      apply q_nil
      with_unfolding_all exact rfl
      with_unfolding_all exact rfl
      apply q_nil
      with_unfolding_all exact rfl
      with_unfolding_all exact rfl
      apply q_op
      apply q_op
      apply q_op
      apply q_var (i := 2)
      with_unfolding_all first | exact ⟨rfl, Or.inl rfl, by decide, by decide⟩ | exact ⟨rfl, Or.inr (Or.inl rfl), by decide, by decide⟩ | exact ⟨rfl, Or.inr (Or.inr rfl), by decide, by decide⟩
      apply q_int
      with_unfolding_all exact op_fdiv
      apply q_op
      apply q_var (i := 4)
      with_unfolding_all first | exact ⟨rfl, Or.inl rfl, by decide, by decide⟩ | exact ⟨rfl, Or.inr (Or.inl rfl), by decide, by decide⟩ | exact ⟨rfl, Or.inr (Or.inr rfl), by decide, by decide⟩
      apply q_int
      with_unfolding_all exact kaddB (K := K) rfl
      with_unfolding_all exact op_fdiv
      apply q_int
      with_unfolding_all exact op_mod
      with_unfolding_all exact ⟨kix (K := K) rfl, fun _ _ => rfl⟩
      apply q_nil
      with_unfolding_all exact rfl
      with_unfolding_all exact ⟨rfl, mt_append, PySem.F.plainAttrs_list, PySem.F.slot_list_append, PySem.F.type_list_append, rfl, rfl, rfl, rfl⟩
      with_unfolding_all exact rfl
      with_unfolding_all exact ⟨PassesOwn.never, rfl, fun _ => rfl⟩
      apply q_then
      apply q_if
      apply q_tcmp
      apply q_op
      apply q_op
      apply q_var (i := 2)
      with_unfolding_all first | exact ⟨rfl, Or.inl rfl, by decide, by decide⟩ | exact ⟨rfl, Or.inr (Or.inl rfl), by decide, by decide⟩ | exact ⟨rfl, Or.inr (Or.inr rfl), by decide, by decide⟩
      apply q_int
      with_unfolding_all exact op_fdiv
      apply q_int
      with_unfolding_all exact op_mod
      apply q_int
      with_unfolding_all exact ⟨op_gt, nomark _⟩
      apply q_then
      apply q_set (i := 4)
      apply q_op
      apply q_op
      apply q_var (i := 2)
      with_unfolding_all first | exact ⟨rfl, Or.inl rfl, by decide, by decide⟩ | exact ⟨rfl, Or.inr (Or.inl rfl), by decide, by decide⟩ | exact ⟨rfl, Or.inr (Or.inr rfl), by decide, by decide⟩
      apply q_int
      with_unfolding_all exact op_fdiv
      apply q_var (i := 1)
      with_unfolding_all first | exact ⟨rfl, Or.inl rfl, by decide, by decide⟩ | exact ⟨rfl, Or.inr (Or.inl rfl), by decide, by decide⟩ | exact ⟨rfl, Or.inr (Or.inr rfl), by decide, by decide⟩
      with_unfolding_all exact op_mod
      with_unfolding_all exact ⟨nd, rfl, Or.inl rfl, rfl, Or.inl rfl⟩
      apply q_last
      apply q_store
      apply q_tupA
      apply q_cons
      apply q_str
      apply q_cons
      apply q_call
      apply q_cons
      apply q_var (i := 0)
      with_unfolding_all first | exact ⟨rfl, Or.inl rfl, by decide, by decide⟩ | exact ⟨rfl, Or.inr (Or.inl rfl), by decide, by decide⟩ | exact ⟨rfl, Or.inr (Or.inr rfl), by decide, by decide⟩
      apply q_cons
      apply q_op
      apply q_int
      apply q_var (i := 4)
      with_unfolding_all first | exact ⟨rfl, Or.inl rfl, by decide, by decide⟩ | exact ⟨rfl, Or.inr (Or.inl rfl), by decide, by decide⟩ | exact ⟨rfl, Or.inr (Or.inr rfl), by decide, by decide⟩
      with_unfolding_all exact kaddB (K := K) rfl
      apply q_nil
      with_unfolding_all exact rfl
      with_unfolding_all exact rfl
      with_unfolding_all exact ⟨C__law_words, hr.mono (by decide), rfl, passes_none, rfl, by decide⟩
      apply q_nil
      with_unfolding_all exact rfl
      with_unfolding_all exact rfl
      apply q_gsub
      apply q_var (i := 3)
      with_unfolding_all first | exact ⟨rfl, Or.inl rfl, by decide, by decide⟩ | exact ⟨rfl, Or.inr (Or.inl rfl), by decide, by decide⟩ | exact ⟨rfl, Or.inr (Or.inr rfl), by decide, by decide⟩
      apply q_var (i := 4)
      with_unfolding_all first | exact ⟨rfl, Or.inl rfl, by decide, by decide⟩ | exact ⟨rfl, Or.inr (Or.inl rfl), by decide, by decide⟩ | exact ⟨rfl, Or.inr (Or.inr rfl), by decide, by decide⟩
      with_unfolding_all exact ⟨set_list, fun _ => rfl⟩
      with_unfolding_all exact ⟨rfl, rfl⟩
      apply q_end
      apply q_then
      apply q_set (i := 5)
      apply q_ix
      apply q_lstA
      apply q_cons
      apply q_int
      apply q_cons
      apply q_int
      apply q_cons
      apply q_int
      apply q_cons
      apply q_int
      apply q_nil
      with_unfolding_all exact rfl
      with_unfolding_all exact rfl
      with_unfolding_all exact rfl
      with_unfolding_all exact rfl
      apply q_op
      apply q_op
      apply q_var (i := 2)
      with_unfolding_all first | exact ⟨rfl, Or.inl rfl, by decide, by decide⟩ | exact ⟨rfl, Or.inr (Or.inl rfl), by decide, by decide⟩ | exact ⟨rfl, Or.inr (Or.inr rfl), by decide, by decide⟩
      apply q_int
      with_unfolding_all exact op_fdiv
      apply q_int
      with_unfolding_all exact op_mod
      with_unfolding_all exact ⟨kix (K := K) rfl, fun _ _ => rfl⟩
      with_unfolding_all exact ⟨nd, rfl, Or.inl rfl, rfl, Or.inl rfl⟩
      apply q_then
      apply q_for
      apply q_irange1
      apply q_cons
      apply q_var (i := 5)
      with_unfolding_all first | exact ⟨rfl, Or.inl rfl, by decide, by decide⟩ | exact ⟨rfl, Or.inr (Or.inl rfl), by decide, by decide⟩ | exact ⟨rfl, Or.inr (Or.inr rfl), by decide, by decide⟩
      apply q_nil
      with_unfolding_all exact rfl
      with_unfolding_all exact ⟨Z.range, rfl, rfl⟩
      apply q_name (i := 6)
      with_unfolding_all exact ⟨nd, rfl, Or.inl rfl, Or.inl rfl⟩
      apply q_then
      apply q_set (i := 4)
      apply q_op
      apply q_op
      apply q_op
      apply q_var (i := 2)
      with_unfolding_all first | exact ⟨rfl, Or.inl rfl, by decide, by decide⟩ | exact ⟨rfl, Or.inr (Or.inl rfl), by decide, by decide⟩ | exact ⟨rfl, Or.inr (Or.inr rfl), by decide, by decide⟩
      apply q_int
      with_unfolding_all exact op_fdiv
      apply q_op
      apply q_var (i := 6)
      with_unfolding_all first | exact ⟨rfl, Or.inl rfl, by decide, by decide⟩ | exact ⟨rfl, Or.inr (Or.inl rfl), by decide, by decide⟩ | exact ⟨rfl, Or.inr (Or.inr rfl), by decide, by decide⟩
      apply q_op
      apply q_int
      apply q_op
      apply q_op
      apply q_var (i := 2)
      with_unfolding_all first | exact ⟨rfl, Or.inl rfl, by decide, by decide⟩ | exact ⟨rfl, Or.inr (Or.inl rfl), by decide, by decide⟩ | exact ⟨rfl, Or.inr (Or.inr rfl), by decide, by decide⟩
      apply q_int
      with_unfolding_all exact op_fdiv
      apply q_int
      with_unfolding_all exact op_mod
      with_unfolding_all exact kaddB (K := K) rfl
      with_unfolding_all exact kmul (K := K) rfl
      with_unfolding_all exact kaddB (K := K) rfl
      apply q_var (i := 1)
      with_unfolding_all first | exact ⟨rfl, Or.inl rfl, by decide, by decide⟩ | exact ⟨rfl, Or.inr (Or.inl rfl), by decide, by decide⟩ | exact ⟨rfl, Or.inr (Or.inr rfl), by decide, by decide⟩
      with_unfolding_all exact op_mod
      with_unfolding_all exact ⟨nd, rfl, Or.inl rfl, rfl, Or.inl rfl⟩
      apply q_last
      apply q_store
      apply q_tupA
      apply q_cons
      apply q_str
      apply q_cons
      apply q_call
      apply q_cons
      apply q_var (i := 0)
      with_unfolding_all first | exact ⟨rfl, Or.inl rfl, by decide, by decide⟩ | exact ⟨rfl, Or.inr (Or.inl rfl), by decide, by decide⟩ | exact ⟨rfl, Or.inr (Or.inr rfl), by decide, by decide⟩
      apply q_cons
      apply q_op
      apply q_int
      apply q_var (i := 4)
      with_unfolding_all first | exact ⟨rfl, Or.inl rfl, by decide, by decide⟩ | exact ⟨rfl, Or.inr (Or.inl rfl), by decide, by decide⟩ | exact ⟨rfl, Or.inr (Or.inr rfl), by decide, by decide⟩
      with_unfolding_all exact kaddB (K := K) rfl
      apply q_nil
      with_unfolding_all exact rfl
      with_unfolding_all exact rfl
      with_unfolding_all exact ⟨C__law_words, hr.mono (by decide), rfl, passes_none, rfl, by decide⟩
      apply q_nil
      with_unfolding_all exact rfl
      with_unfolding_all exact rfl
      apply q_gsub
      apply q_var (i := 3)
      with_unfolding_all first | exact ⟨rfl, Or.inl rfl, by decide, by decide⟩ | exact ⟨rfl, Or.inr (Or.inl rfl), by decide, by decide⟩ | exact ⟨rfl, Or.inr (Or.inr rfl), by decide, by decide⟩
      apply q_var (i := 4)
      with_unfolding_all first | exact ⟨rfl, Or.inl rfl, by decide, by decide⟩ | exact ⟨rfl, Or.inr (Or.inl rfl), by decide, by decide⟩ | exact ⟨rfl, Or.inr (Or.inr rfl), by decide, by decide⟩
      with_unfolding_all exact ⟨set_list, fun _ => rfl⟩
      with_unfolding_all exact ⟨rfl, rfl⟩
      with_unfolding_all exact ⟨PassesOwn.never, rfl, fun _ => rfl⟩
      apply q_last
      apply q_ret
      apply q_var (i := 3)
      with_unfolding_all first | exact ⟨rfl, Or.inl rfl, by decide, by decide⟩ | exact ⟨rfl, Or.inr (Or.inl rfl), by decide, by decide⟩ | exact ⟨rfl, Or.inr (Or.inr rfl), by decide, by decide⟩
    refine ⟨_, rfl, .inl ⟨_, _, rfl, rfl, .inr ⟨by decide, by decide⟩, _, _, rfl, rfl, (by show (0 : Int) < 2147483647; decide), ?_⟩⟩
    dsimp only [gName]
    obtain ⟨mx, emx, hmx0, hmx1⟩ : ∃ mx : Int, mx = c * 48271 % 2147483647 ∧ 0 ≤ mx ∧ mx < 2147483647 := ⟨_, rfl, Int.emod_nonneg _ (by decide), Int.emod_lt_of_pos _ (by decide)⟩
    rw [← emx]
    clear emx
    refine st_norm (σ' := [some (.int c), some (.int ((n : Nat) : Int)), some (.int mx), none, none, none, none]) rfl ?_
    refine ⟨Nat.zero_le _, fun b H1 n1 => ?_⟩
    dsimp only [gName]
    refine st_norm (σ' := [some (.int c), some (.int ((n : Nat) : Int)), some (.int mx), some (.ref b), none, none, none]) rfl ?_
    refine ⟨_, rfl, _, rfl, by omega, by omega, for_range (n := _) (fun i σ H' => ∃ v4 xs row, σ = [some (.int c), some (.int ((n : Nat) : Int)), some (.int mx), some (.ref b), v4, none, none] ∧ Same H H' ∧ H' b = some (.lst xs) ∧ DTs H' xs ((row : List C2).map c2D) ∧ row.length = i ∧ ∀ c ∈ row, RowOk c) ⟨_, [], [], rfl, n1.2.1, n1.2.2, .nil, rfl, fun _ h => by cases h⟩ ?_ ?_⟩
    · rintro i σ H2 hi ⟨v4, xs, row, rfl, s2, hb, hd, hl, ho⟩
      rw [Int.toNat_natCast] at hi
      dsimp only [gName]
      rw [Int.zero_add]
      refine st_norm (σ' := [some (.int c), some (.int ((n : Nat) : Int)), some (.int mx), some (.ref b), some (.int ((i : Nat) : Int)), none, none]) rfl ?_
      refine ⟨_, rfl, .inl ⟨rfl, _, SqL.of hb⟩, z2, fun p1 H3 n3 => ⟨_, rfl, _, rfl, _, _, rfl, fun y ns H4 s4 dy => ⟨z2, fun p2 H5 n5 => ⟨z2, fun p3 H6 n6 => ⟨_, rfl, _, _, rfl, rfl, ⟨by decide, by decide⟩, _, rfl, .inl ⟨_, _, rfl, rfl, _, _, rfl, rfl, ⟨by omega, by omega⟩, _, _, rfl, rfl, (by show (0 : Int) < 2; decide), ?_⟩⟩⟩⟩⟩⟩
      have d6 : DTs H6 [V.ref p1, V.ref p2] (([("away", none), ("reader", some ns)] : List C2).map c2D) := .cons ((n3.tup (.cons (.str _) (.cons .non .nil))).keep (s4.trans (n5.2.1.trans n6.2.1))) (.cons ((n5.tup (.cons (.str _) (.cons dy .nil))).keep n6.2.1) .nil)
      have s26 := n3.2.1.trans (s4.trans (n5.2.1.trans n6.2.1))
      obtain ⟨x, cc, ex, cm, dx⟩ := pickM d6 (m := mx / 2 / (((i : Nat) : Int) + 1) % 2) (Int.emod_nonneg _ (by decide)) (Int.emod_lt_of_pos _ (by decide))
      have okc : RowOk cc := by
        rcases List.mem_cons.mp cm with h | h
        · rw [h]
          exact ok_aw
        · rw [List.mem_singleton.mp h]
          exact fun _ => rfl
      have hb6 := s26 _ _ hb
      refine .inl ⟨p3, _, _, _, rfl, rfl, SqL.of n6.2.2, ex, b, _, _, rfl, rfl, hb6, small1000 (by rw [hd.length, List.length_map]; omega), ⟨_, xs ++ [x], row ++ [cc], rfl, Same.updD n1.1 (s2.trans s26), upd_same, ?_, by simp [hl], fun d hd' => ?_⟩⟩
      · rw [List.map_append]
        exact ((hd.keep s26).snoc dx).kt (kt_upd hb6)
      · rcases List.mem_append.mp hd' with h | h
        · exact ho d h
        · rw [List.mem_singleton.mp h]
          exact okc
    rintro σ H2 ⟨v4, xs, row, rfl, s2, hb, hd, hl, ho⟩
    rw [Int.toNat_natCast] at hl
    dsimp only
    refine cut (fun σ H' => ∃ v4 xs row, σ = [some (.int c), some (.int ((n : Nat) : Int)), some (.int mx), some (.ref b), v4, none, none] ∧ Same H H' ∧ H' b = some (.lst xs) ∧ DTs H' xs ((row : List C2).map c2D) ∧ row.length = n ∧ ∀ c ∈ row, RowOk c) ?t1 fun tl => ?h1
    case h1 =>
      refine ⟨_, rfl, _, _, rfl, rfl, ⟨by decide, by decide⟩, _, _, rfl, rfl, (by show (0 : Int) < 3; decide), _, _, rfl, rfl, _, rfl, iteD (fun z => ?_) (fun z => tl _ _ ⟨_, xs, row, rfl, s2, hb, hd, hl, ho⟩)⟩
      refine ⟨_, rfl, _, _, rfl, rfl, ⟨by decide, by decide⟩, _, rfl, _, _, rfl, rfl, (by show (0 : Int) < ((n : Nat) : Int); omega), ?_⟩
      dsimp only [gName]
      obtain ⟨nr, enr, hr0, hr1⟩ := em2 (mx / 192) ((n : Nat) : Int) (by omega)
      rw [← enr]
      obtain ⟨j, rfl⟩ := Int.eq_ofNat_of_zero_le hr0
      refine st_norm (σ' := [some (.int c), some (.int ((n : Nat) : Int)), some (.int mx), some (.ref b), some (.int ((j : Nat) : Int)), none, none]) rfl ?_
      refine ⟨_, rfl, _, rfl, .inl ⟨_, _, rfl, rfl, _, _, rfl, fun y ns H3 s3 dy => ⟨z2, fun p H4 n4 => ⟨_, rfl, _, rfl, b, xs, _, j, rfl, rfl, (s3.trans n4.2.1) _ _ hb, ?_, ?_⟩⟩⟩⟩
      · exact ixN_nat (by rw [hd.length, List.length_map]; omega)
      · have hb4 := (s3.trans n4.2.1) _ _ hb
        refine tl _ _ ⟨_, xs.set j (.ref p), row.set j ("leaving writer", some ns), rfl, Same.updD n1.1 (s2.trans (s3.trans n4.2.1)), upd_same, ?_, by simp [hl], set_ok ho fun _ => rfl⟩
        exact (DTs.setC (n4.tup (.cons (.str _) (.cons dy .nil))) j (hd.keep (s3.trans n4.2.1))).kt (kt_upd hb4)
    rintro σ H3 ⟨v4, xs, row, rfl, s3, hb, hd, hl, ho⟩
    refine ⟨(by show 4 ≤ sizeLine; decide), fun l1 H4 n4 => ⟨_, rfl, _, _, rfl, rfl, ⟨by decide, by decide⟩, _, _, rfl, rfl, (by show (0 : Int) < 4; decide), ?_⟩⟩
    obtain ⟨wn, ewn, hwn⟩ : ∃ wn : Nat, atI [V.int 0, V.int 0, V.int 1, V.int 2] (mx / 1024 % 4) = some (.int ((wn : Nat) : Int)) ∧ wn ≤ 2 := by
      rcases (by omega : mx / 1024 % 4 = 0 ∨ mx / 1024 % 4 = 1 ∨ mx / 1024 % 4 = 2 ∨ mx / 1024 % 4 = 3) with e | e | e | e <;> rw [e]
      · exact ⟨0, rfl, by decide⟩
      · exact ⟨0, rfl, by decide⟩
      · exact ⟨1, rfl, by decide⟩
      · exact ⟨2, rfl, by decide⟩
    refine .inl ⟨l1, _, _, _, rfl, rfl, SqL.of n4.2.2, ewn, ?_⟩
    dsimp only [gName]
    refine st_norm (σ' := [some (.int c), some (.int ((n : Nat) : Int)), some (.int mx), some (.ref b), v4, some (.int ((wn : Nat) : Int)), none]) rfl ?_
    refine ⟨_, rfl, _, rfl, by omega, by omega, for_range (n := _) (fun i σ H' => ∃ v4 v6 xs row, σ = [some (.int c), some (.int ((n : Nat) : Int)), some (.int mx), some (.ref b), v4, some (.int ((wn : Nat) : Int)), v6] ∧ Same H H' ∧ H' b = some (.lst xs) ∧ DTs H' xs ((row : List C2).map c2D) ∧ row.length = n ∧ ∀ c ∈ row, RowOk c) ⟨_, _, xs, row, rfl, s3.trans n4.2.1, n4.2.1 _ _ hb, hd.keep n4.2.1, hl, ho⟩ ?_ ?_⟩
    · rintro i σ H5 hi ⟨v4, v6, xs, row, rfl, s5, hb, hd, hl, ho⟩
      rw [Int.toNat_natCast] at hi
      dsimp only [gName]
      rw [Int.zero_add]
      refine st_norm (σ' := [some (.int c), some (.int ((n : Nat) : Int)), some (.int mx), some (.ref b), v4, some (.int ((wn : Nat) : Int)), some (.int ((i : Nat) : Int))]) rfl ?_
      refine ⟨_, rfl, _, _, rfl, rfl, ⟨by decide, by decide⟩, _, rfl, _, rfl, _, _, rfl, rfl, ⟨by decide, by decide⟩, _, _, rfl, rfl, (by show (0 : Int) < 2; decide), .inl ⟨_, _, rfl, rfl, .inl ⟨_, _, rfl, rfl, .inl ⟨by omega, by omega⟩, .inl ⟨_, _, rfl, rfl, _, rfl, _, _, rfl, rfl, (by show (0 : Int) < ((n : Nat) : Int); omega), ?_⟩⟩⟩⟩
      dsimp only [gName]
      obtain ⟨nr, enr, hr0, hr1⟩ := em2 (mx / 4096 + ((i : Nat) : Int) * (1 + mx / 16384 % 2)) ((n : Nat) : Int) (by omega)
      rw [← enr]
      obtain ⟨j, rfl⟩ := Int.eq_ofNat_of_zero_le hr0
      refine st_norm (σ' := [some (.int c), some (.int ((n : Nat) : Int)), some (.int mx), some (.ref b), some (.int ((j : Nat) : Int)), some (.int ((wn : Nat) : Int)), some (.int ((i : Nat) : Int))]) rfl ?_
      refine ⟨_, rfl, _, rfl, .inl ⟨_, _, rfl, rfl, _, _, rfl, fun y ns H6 s6 dy => ⟨z2, fun p H7 n7 => ⟨_, rfl, _, rfl, b, xs, _, j, rfl, rfl, (s6.trans n7.2.1) _ _ hb, ?_, ?_⟩⟩⟩⟩
      · exact ixN_nat (by rw [hd.length, List.length_map]; omega)
      · have hb7 := (s6.trans n7.2.1) _ _ hb
        refine ⟨_, _, xs.set j (.ref p), row.set j ("writer", some ns), rfl, Same.updD n1.1 (s5.trans (s6.trans n7.2.1)), upd_same, ?_, by simp [hl], set_ok ho fun _ => rfl⟩
        exact (DTs.setC (n7.tup (.cons (.str _) (.cons dy .nil))) j (hd.keep (s6.trans n7.2.1))).kt (kt_upd hb7)
    rintro σ H5 ⟨v4, v6, xs, row, rfl, s5, hb, hd, hl, ho⟩
    exact ⟨_, rfl, q b xs row H5 s5 n1.1 hb hd hl ho⟩
def lwAt (row : List C2) (k : Nat) : Bool := match row[k]? with
  | some c => isLw c
  | none => false
def spLeaving : Sp := fun vs H Q _ => ∃ (a : Addr) (xs : List V) (row : List C2), vs = [.ref a] ∧ H a = some (.lst xs) ∧ DTs H xs (row.map c2D) ∧ row.length ≤ 8 ∧ ∀ q H', Same H H' → H q = none → H' q = some (.lst ((((List.range row.length).filter (lwAt row)).map fun n => ((n : Nat) : Int)).map V.int)) → Q (.ref q) H'
theorem scLeaving : FnScope ["_law_states_here"] ["_law_states_here"] (defScope sLeaving) := ⟨rfl, rfl, rfl, by decide +kernel, rfl, by decide +kernel, by decide +kernel⟩
theorem ok_leaving {f : Addr} {fd : FuncData} (F : Fun K "_law_leaving" "_law_leaving" sLeaving f fd) (Z : Bl mg) : FnOk P w K mg base CX0 1 f fd ["_law_states_here"] spLeaving := by
  refine F.ok scLeaving (fun vs H Q E h => ?_) (fun cdv A outer s H vs Q E hr h => ?_)
  · obtain ⟨a, xs, row, rfl, _⟩ := h
    rfl
  · obtain ⟨a, xs, row, rfl, ha, hd, hl, q⟩ := h
    have nd := scLeaving.nd
    have xl : xs.length = row.length := by rw [hd.length, List.length_map]
    apply body_of
    (conv => arg 2; whnf)
    with_reducible
      apply q_last
      apply q_ret
      apply q_comp (N' := ["_law_states_here", "_law_near"]) (ix := [some 0, none]) (i0 := 1)
      apply q_irange1
      apply q_cons
      apply q_cb
      apply q_cons
      apply q_var (i := 0)
      with_unfolding_all first | exact ⟨rfl, Or.inl rfl, by decide, by decide⟩ | exact ⟨rfl, Or.inr (Or.inl rfl), by decide, by decide⟩ | exact ⟨rfl, Or.inr (Or.inr rfl), by decide, by decide⟩
      apply q_nil
      with_unfolding_all exact rfl
      with_unfolding_all exact ⟨klen (K := K) rfl, Z.len, bb_len, rfl, rfl, by decide, by decide⟩
      apply q_nil
      with_unfolding_all exact rfl
      with_unfolding_all exact ⟨Z.range, rfl, rfl⟩
      intro cl C s2 H2 fp
      apply q_ifone
      apply q_tcmp
      apply q_ix
      apply q_ix
      apply q_var (i := 0)
      with_unfolding_all first | exact ⟨rfl, Or.inl rfl, by decide, by decide⟩ | exact ⟨rfl, Or.inr (Or.inl rfl), by decide, by decide⟩ | exact ⟨rfl, Or.inr (Or.inr rfl), by decide, by decide⟩
      apply q_var (i := 1)
      with_unfolding_all first | exact ⟨rfl, Or.inl rfl, by decide, by decide⟩ | exact ⟨rfl, Or.inr (Or.inl rfl), by decide, by decide⟩ | exact ⟨rfl, Or.inr (Or.inr rfl), by decide, by decide⟩
      with_unfolding_all exact ⟨kix (K := K) rfl, fun _ _ => rfl⟩
      apply q_int
      with_unfolding_all exact ⟨kix (K := K) rfl, fun _ _ => rfl⟩
      apply q_str
      with_unfolding_all exact ⟨keq (K := K) rfl hr.units, nomark _⟩
      intro cl C s2 H2 fp
      apply q_var (i := 1)
      with_unfolding_all first | exact ⟨rfl, Or.inl rfl, by decide, by decide⟩ | exact ⟨rfl, Or.inr (Or.inl rfl), by decide, by decide⟩ | exact ⟨rfl, Or.inr (Or.inr rfl), by decide, by decide⟩
      with_unfolding_all exact ⟨by kernel_rfl, rfl, rfl, rfl, rfl, fun _ => rfl⟩
    refine ⟨_, rfl, .inl ⟨a, _, rfl, .inl (SqL.of ha), _, rfl, by omega, by omega, fun D hD => comp_rangeF (dueF (lwAt row)) hD (by omega) (fun i H1 Qy Qn hi sm hy hn => ?_) fun H1 s1 e1 => ?_⟩⟩
    · rw [Int.zero_add] at hy hn ⊢
      have e0 : dueF (lwAt row) (.int ((i : Nat) : Int)) = if lwAt row i = true then some (.int ((i : Nat) : Int)) else none := by unfold dueF; dsimp only; rw [Int.toNat_natCast]
      rw [e0] at hy hn
      obtain ⟨t, u, v, c, ex, ec, ht, hv, rfl, hu⟩ := cell_of (hd.keep sm) (i := i) (by omega)
      have ew : lwAt row i = decide (c.1 = ("leaving writer" : Str)) := by unfold lwAt isLw; rw [ec]
      rw [ew] at hy hn
      exact ⟨_, rfl, _, rfl, .inl ⟨a, _, _, _, rfl, rfl, SqL.of (sm _ _ ha), at_nat (j := i) ex rfl, .inr (.inl ⟨t, _, _, _, rfl, rfl, SqT.of ht, at_nat (j := 0) rfl rfl, .inl ⟨rfl, _, rfl, iteS (fun z => ⟨_, rfl, hy H1 _ (Same.refl _) (if_pos (decide_eq_true z))⟩) (fun z => hn H1 (Same.refl _) (if_neg (by rw [decide_eq_false z]; exact Bool.false_ne_true)))⟩⟩)⟩⟩
    · rw [rangeF_c, Int.toNat_natCast, xl] at e1
      exact q D H1 s1 hD e1
def spHome : Sp := fun vs H Q _ => ∃ (c : Int) (a : Addr) (xs : List V) (row : List C2), vs = [.int c, .ref a] ∧ H a = some (.lst xs) ∧ DTs H xs (row.map c2D) ∧ 0 < row.length ∧ row.length ≤ 8 ∧ ∀ x h H', Same H H' → DT H' x (hmD h) → (∀ n, h.2 = some n → n < row.length) → Q x H'
theorem scHome : FnScope ["_law_cell", "_law_states_here", "_law_mixed", "_law_writer"] ["_law_cell", "_law_states_here"] (defScope sHome) := ⟨rfl, rfl, rfl, by decide +kernel, rfl, by decide +kernel, by decide +kernel⟩
theorem ok_home {f : Addr} {fd : FuncData} (F : Fun K "_law_home" "_law_home" sHome f fd) (Z : Bl mg) (C__law_words : CalD P w K mg base (CXE P w) 1 "_law_words" ["_law_cell", "_law_k"] [] spWords) (C__law_leaving : CalD P w K mg base (CXE P w) 1 "_law_leaving" ["_law_states_here"] [] spLeaving) : FnOk P w K mg base CX0 2 f fd ["_law_cell", "_law_states_here"] spHome := by
  refine F.ok scHome (fun vs H Q E h => ?_) (fun cdv A outer s H vs Q E hr h => ?_)
  · obtain ⟨c, a, xs, row, rfl, _⟩ := h
    rfl
  · obtain ⟨c, a, xs, row, rfl, ha, hd, hl0, hl, q⟩ := h
    have nd := scHome.nd
    have xl : xs.length = row.length := by rw [hd.length, List.length_map]
    apply body_of
    (conv => arg 2; whnf)
    with_reducible
      apply q_then
      apply q_set (i := 2)
      apply q_op
      apply q_op
      apply q_var (i := 0)
      with_unfolding_all first | exact ⟨rfl, Or.inl rfl, by decide, by decide⟩ | exact ⟨rfl, Or.inr (Or.inl rfl), by decide, by decide⟩ | exact ⟨rfl, Or.inr (Or.inr rfl), by decide, by decide⟩
      apply q_int
      with_unfolding_all exact kmul (K := K) rfl
      apply q_int
      with_unfolding_all exact op_mod
      with_unfolding_all exact ⟨nd, rfl, Or.inl rfl, rfl, Or.inl rfl⟩
      apply q_then
      apply q_set (i := 3)
      apply q_ix
      apply q_lstA
      apply q_cons
      apply q_non
      apply q_cons
      apply q_op
      apply q_op
      apply q_var (i := 2)
      with_unfolding_all first | exact ⟨rfl, Or.inl rfl, by decide, by decide⟩ | exact ⟨rfl, Or.inr (Or.inl rfl), by decide, by decide⟩ | exact ⟨rfl, Or.inr (Or.inr rfl), by decide, by decide⟩
      apply q_int
      with_unfolding_all exact op_fdiv
      apply q_cb
      apply q_cons
      apply q_var (i := 1)
      with_unfolding_all first | exact ⟨rfl, Or.inl rfl, by decide, by decide⟩ | exact ⟨rfl, Or.inr (Or.inl rfl), by decide, by decide⟩ | exact ⟨rfl, Or.inr (Or.inr rfl), by decide, by decide⟩
      apply q_nil
      with_unfolding_all exact rfl
      with_unfolding_all exact ⟨klen (K := K) rfl, Z.len, bb_len, rfl, rfl, by decide, by decide⟩
      with_unfolding_all exact op_mod
      apply q_cons
      apply q_non
      apply q_nil
      with_unfolding_all exact rfl
      with_unfolding_all exact rfl
      with_unfolding_all exact rfl
      apply q_op
      apply q_var (i := 2)
      with_unfolding_all first | exact ⟨rfl, Or.inl rfl, by decide, by decide⟩ | exact ⟨rfl, Or.inr (Or.inl rfl), by decide, by decide⟩ | exact ⟨rfl, Or.inr (Or.inr rfl), by decide, by decide⟩
      apply q_int
      with_unfolding_all exact op_mod
      with_unfolding_all exact ⟨kix (K := K) rfl, fun _ _ => rfl⟩
      with_unfolding_all exact ⟨nd, rfl, Or.inl rfl, rfl, Or.inl rfl⟩
      apply q_then
      apply q_if
      apply q_bool
      apply q_wand
      apply q_tcmp
      apply q_op
      apply q_var (i := 2)
      with_unfolding_all first | exact ⟨rfl, Or.inl rfl, by decide, by decide⟩ | exact ⟨rfl, Or.inr (Or.inl rfl), by decide, by decide⟩ | exact ⟨rfl, Or.inr (Or.inr rfl), by decide, by decide⟩
      apply q_int
      with_unfolding_all exact op_mod
      apply q_int
      with_unfolding_all exact ⟨op_lt, nomark _⟩
      apply q_wand1
      apply q_tcmp
      apply q_cb
      apply q_cons
      apply q_call
      apply q_cons
      apply q_var (i := 1)
      with_unfolding_all first | exact ⟨rfl, Or.inl rfl, by decide, by decide⟩ | exact ⟨rfl, Or.inr (Or.inl rfl), by decide, by decide⟩ | exact ⟨rfl, Or.inr (Or.inr rfl), by decide, by decide⟩
      apply q_nil
      with_unfolding_all exact rfl
      with_unfolding_all exact ⟨C__law_leaving, hr.mono (by decide), rfl, passes_none, rfl, by decide⟩
      apply q_nil
      with_unfolding_all exact rfl
      with_unfolding_all exact ⟨klen (K := K) rfl, Z.len, bb_len, rfl, rfl, by decide, by decide⟩
      apply q_int
      with_unfolding_all exact ⟨op_gt, nomark _⟩
      apply q_last
      apply q_set (i := 3)
      apply q_ix
      apply q_call
      apply q_cons
      apply q_var (i := 1)
      with_unfolding_all first | exact ⟨rfl, Or.inl rfl, by decide, by decide⟩ | exact ⟨rfl, Or.inr (Or.inl rfl), by decide, by decide⟩ | exact ⟨rfl, Or.inr (Or.inr rfl), by decide, by decide⟩
      apply q_nil
      with_unfolding_all exact rfl
      with_unfolding_all exact ⟨C__law_leaving, hr.mono (by decide), rfl, passes_none, rfl, by decide⟩
      apply q_int
      with_unfolding_all exact ⟨kix (K := K) rfl, fun _ _ => rfl⟩
      with_unfolding_all exact ⟨nd, rfl, Or.inl rfl, rfl, Or.inl rfl⟩
      apply q_end
      apply q_last
      apply q_ret
      apply q_tupA
      apply q_cons
      apply q_call
      apply q_cons
      apply q_var (i := 0)
      with_unfolding_all first | exact ⟨rfl, Or.inl rfl, by decide, by decide⟩ | exact ⟨rfl, Or.inr (Or.inl rfl), by decide, by decide⟩ | exact ⟨rfl, Or.inr (Or.inr rfl), by decide, by decide⟩
      apply q_cons
      apply q_int
      apply q_nil
      with_unfolding_all exact rfl
      with_unfolding_all exact rfl
      with_unfolding_all exact ⟨C__law_words, hr.mono (by decide), rfl, passes_none, rfl, by decide⟩
      apply q_cons
      apply q_var (i := 3)
      with_unfolding_all first | exact ⟨rfl, Or.inl rfl, by decide, by decide⟩ | exact ⟨rfl, Or.inr (Or.inl rfl), by decide, by decide⟩ | exact ⟨rfl, Or.inr (Or.inr rfl), by decide, by decide⟩
      apply q_cons
      apply q_tupA
      apply q_nil
      apply q_cons
      apply q_tupA
      apply q_nil
      apply q_cons
      apply q_non
      apply q_nil
      with_unfolding_all exact rfl
      with_unfolding_all exact rfl
      with_unfolding_all exact rfl
      with_unfolding_all exact rfl
      with_unfolding_all exact rfl
    refine ⟨_, rfl, .inl ⟨_, _, rfl, rfl, .inr ⟨by decide, by decide⟩, _, _, rfl, rfl, (by show (0 : Int) < 2147483629; decide), ?_⟩⟩
    dsimp only [gName]
    generalize c * 69621 % 2147483629 = mx
    refine st_norm (σ' := [some (.int c), some (.ref a), some (.int mx), none]) rfl ?_
    refine ⟨_, rfl, _, _, rfl, rfl, ⟨by decide, by decide⟩, _, rfl, .inl ⟨a, _, rfl, .inl (SqL.of ha), _, _, rfl, rfl, (by show (0 : Int) < ((xs.length : Nat) : Int); omega), (by show 3 ≤ sizeLine; decide), fun l1 H1 n1 => ⟨_, rfl, _, _, rfl, rfl, (by show (0 : Int) < 3; decide), ?_⟩⟩⟩
    obtain ⟨nr, enr, hr0, hr1⟩ := em2 (mx / 4) ((xs.length : Nat) : Int) (by omega)
    have n1l := n1.2.2
    dsimp only at n1l
    rw [← enr] at n1l
    obtain ⟨j, rfl⟩ := Int.eq_ofNat_of_zero_le hr0
    obtain ⟨wr, ewr, hwr⟩ : ∃ wr : Option Nat, atI [V.non, V.int ((j : Nat) : Int), V.non] (mx % 3) = some (wrV wr) ∧ ∀ n, wr = some n → n < row.length := by
      rcases (by omega : mx % 3 = 0 ∨ mx % 3 = 1 ∨ mx % 3 = 2) with e | e | e <;> rw [e]
      · exact ⟨none, rfl, fun _ h => by cases h⟩
      · exact ⟨some j, rfl, fun n h => by obtain rfl := Option.some.inj h; omega⟩
      · exact ⟨none, rfl, fun _ h => by cases h⟩
    refine .inl ⟨l1, _, _, _, rfl, rfl, SqL.of n1l, ewr, ?_⟩
    dsimp only [gName]
    refine st_norm (σ' := [some (.int c), some (.ref a), some (.int mx), some (wrV wr)]) rfl ?_
    refine cut (fun σ H' => ∃ wr, σ = [some (.int c), some (.ref a), some (.int mx), some (wrV wr)] ∧ Same H H' ∧ ∀ n, wr = some n → n < row.length) ?t1 fun tl => ?h1
    case h1 =>
      refine ⟨_, rfl, _, _, rfl, rfl, (by show (0 : Int) < 4; decide), _, _, rfl, rfl, _, rfl, iteD (fun z => ?_) (fun z => iteF (tl _ _ ⟨wr, rfl, n1.2.1, hwr⟩))⟩
      refine ⟨_, rfl, a, xs, row, rfl, n1.2.1 _ _ ha, hd.keep n1.2.1, hl, fun q2 H2 s2 h2 e2 => .inl ⟨q2, _, rfl, .inl (SqL.of e2), _, _, rfl, rfl, _, rfl, iteD (fun y => ?_) (fun y => tl _ _ ⟨wr, rfl, n1.2.1.trans s2, hwr⟩)⟩⟩
      refine ⟨_, rfl, a, xs, row, rfl, (n1.2.1.trans s2) _ _ ha, hd.keep (n1.2.1.trans s2), hl, fun q3 H3 s3 h3 e3 => ?_⟩
      have hk : ∀ k ∈ (List.range row.length).filter (lwAt row), k < row.length := fun k h => List.mem_range.mp (List.mem_filter.mp h).1
      rw [List.length_map, List.length_map] at y
      generalize (List.range row.length).filter (lwAt row) = W at e2 e3 hk y
      cases W with
      | nil => simp at y
      | cons k W =>
        exact .inl ⟨q3, _, _, _, rfl, rfl, SqL.of e3, at_nat (j := 0) rfl rfl, tl _ _ ⟨some k, rfl, n1.2.1.trans (s2.trans s3), fun n h => by obtain rfl := Option.some.inj h; exact hk k List.mem_cons_self⟩⟩
    rintro σ H2 ⟨wr, rfl, s2, hwr⟩
    refine ⟨_, rfl, _, _, rfl, fun y ns H3 s3 dy => ⟨_, rfl, Nat.zero_le _, fun g1 H4 n4 => ⟨Nat.zero_le _, fun g2 H5 n5 => ⟨(by show 5 ≤ sizeLine; decide), fun g3 H6 n6 => ?_⟩⟩⟩⟩
    refine q (.ref g3) (ns, wr) H6 (s2.trans (s3.trans (n4.2.1.trans (n5.2.1.trans n6.2.1)))) ?_ hwr
    exact n6.tup (.cons (dy.keep (n4.2.1.trans n5.2.1)) (.cons (wrV_dt _ _) (.cons ((n4.tup .nil).keep n5.2.1) (.cons (n5.tup .nil) (.cons .non .nil)))))
end
end K66

set_option Elab.async false
set_option linter.all false
set_option maxRecDepth 100000
set_option maxHeartbeats 1000000
namespace K66
open PySem L2
def LsOk (ln : Nat) (H : Hp) (p : Addr) : Prop := ∃ xs ls, H p = some (.lst xs) ∧ DTs H xs ((ls : List LT).map ltD) ∧ (∀ l ∈ ls, l.2.1 = ln) ∧ ls.length ≤ 2
theorem LsOk.keep {ln : Nat} {H H' : Hp} {p : Addr} (h : LsOk ln H p) (s : Same H H') : LsOk ln H' p := let ⟨xs, ls, a, b, c, d⟩ := h; ⟨xs, ls, s _ _ a, b.keep s, c, d⟩
theorem LsOk.upd {ln : Nat} {H : Hp} {p q : Addr} {zs us : List V} (h : LsOk ln H p) (hq : H q = some (.lst zs)) (n : p ≠ q) : LsOk ln (L2.upd H q (.lst us)) p := let ⟨xs, ls, a, b, c, d⟩ := h; ⟨xs, ls, by rw [upd_ne n]; exact a, b.kt (kt_upd hq), c, d⟩
theorem LsOk.mk0 {ln : Nat} {H H' : Hp} {p : Addr} (n : New H p (.lst []) H') : LsOk ln H' p := ⟨[], [], n.2.2, .nil, (fun _ h => by cases h), Nat.zero_le _⟩
theorem LsOk.mk1 {ln : Nat} {H H' : Hp} {p : Addr} {x : V} {l : LT} (n : New H p (.lst [x]) H') (d : DT H x (ltD l)) (hl : l.2.1 = ln) : LsOk ln H' p := ⟨_, [l], n.2.2, .cons (d.keep n.2.1) .nil, (fun k h => by rw [List.mem_singleton.mp h]; exact hl), by simp⟩
theorem LsOk.mk2 {ln : Nat} {H H' : Hp} {p : Addr} {x y : V} {l k : LT} (n : New H p (.lst [x, y]) H') (d : DT H x (ltD l)) (hl : l.2.1 = ln) (e : DT H y (ltD k)) (hk : k.2.1 = ln) : LsOk ln H' p := ⟨_, [l, k], n.2.2, .cons (d.keep n.2.1) (.cons (e.keep n.2.1) .nil), (fun m h => by
  rcases List.mem_cons.mp h with h | h
  · rw [h]; exact hl
  · rw [List.mem_singleton.mp h]; exact hk), by simp⟩
theorem filter_head {α : Type} {q : α → Bool} {as : List α} {i : Nat} {a : α} (h0 : (as.take i).filter q = []) (h : as[i]? = some a) (ha : q a = true) : ∃ r, as.filter q = a :: r := by
  have hi := (List.getElem?_eq_some_iff.mp h).1
  have e : as = as.take i ++ a :: as.drop (i + 1) := by
    have : as.drop i = a :: as.drop (i + 1) := by
      rw [List.drop_eq_getElem_cons hi]
      congr 1
      exact (List.getElem?_eq_some_iff.mp h).2
    rw [← this, List.take_append_drop]
  refine ⟨(as.drop (i + 1)).filter q, ?_⟩
  rw [e, List.filter_append, h0, List.filter_cons, if_pos ha, List.nil_append]
  congr 1
  rw [← e]
theorem filter_step {α : Type} {q : α → Bool} {as : List α} {i : Nat} {a : α} (h0 : (as.take i).filter q = []) (h : as[i]? = some a) (ha : q a = false) : (as.take (i + 1)).filter q = [] := by
  rw [List.take_add_one, h, Option.toList_some, List.filter_append, h0, List.filter_cons, if_neg (by rw [ha]; exact Bool.false_ne_true)]
  rfl
section
variable {P : Program} {w : World} {K : PySem.W.Frag} {mg : Str → Option Value} {base : Heap} {aC cN : Addr}
def spLetters : Sp := fun vs H Q _ => ∃ (c : Int) (ln n : Nat), vs = [.int c, .int ((ln : Nat) : Int), .int ((n : Nat) : Int)] ∧ 2 ≤ n ∧ n ≤ 8 ∧ ∀ q xs (ls : List LT) H', Same H H' → H' q = some (.lst xs) → DTs H' xs (ls.map ltD) → (∀ l ∈ ls, l.2.1 = ln) → ls.length ≤ 2 → Q (.ref q) H'
theorem scLetters : FnScope ["_law_cell", "_law_line", "_law_nears", "_law_mixed", "_law_near", "_law_lowered", "_law_yielded", "_law_empty", "_law_later", "_law_some"] ["_law_cell", "_law_line", "_law_nears"] (defScope sLetters) := ⟨rfl, rfl, rfl, by decide +kernel, rfl, by decide +kernel, by decide +kernel⟩
theorem ok_letters {f : Addr} {fd : FuncData} (F : Fun K "_law_letters" "_law_letters" sLetters f fd) (C__law_words : CalD P w K mg base (CXE P w) 1 "_law_words" ["_law_cell", "_law_k"] [] spWords) : FnOk P w K mg base CX0 2 f fd ["_law_cell", "_law_line", "_law_nears"] spLetters := by
  refine F.ok scLetters (fun vs H Q E h => ?_) (fun cdv A outer s H vs Q E hr h => ?_)
  · obtain ⟨c, ln, n, rfl, _⟩ := h
    rfl
  · obtain ⟨c, ln, n, rfl, hn0, hn1, q⟩ := h
    have nd := scLetters.nd
    have z1 : 1 ≤ sizeLine := by decide
    have z2 : 2 ≤ sizeLine := by decide
    have z4 : 4 ≤ sizeLine := by decide
    apply body_of
    (conv => arg 2; whnf)
    with_reducible
      apply q_then
      apply q_set (i := 3)
      apply q_op
      apply q_op
      apply q_var (i := 0)
      with_unfolding_all first | exact ⟨rfl, Or.inl rfl, by decide, by decide⟩ | exact ⟨rfl, Or.inr (Or.inl rfl), by decide, by decide⟩ | exact ⟨rfl, Or.inr (Or.inr rfl), by decide, by decide⟩
      apply q_int
      with_unfolding_all exact kmul (K := K) rfl
      apply q_int
      with_unfolding_all exact op_mod
      with_unfolding_all exact ⟨nd, rfl, Or.inl rfl, rfl, Or.inl rfl⟩
      apply q_then
      apply q_set (i := 4)
      apply q_op
      apply q_op
      apply q_var (i := 3)
      with_unfolding_all first | exact ⟨rfl, Or.inl rfl, by decide, by decide⟩ | exact ⟨rfl, Or.inr (Or.inl rfl), by decide, by decide⟩ | exact ⟨rfl, Or.inr (Or.inr rfl), by decide, by decide⟩
      apply q_int
      with_unfolding_all exact op_fdiv
      apply q_op
      apply q_var (i := 2)
      with_unfolding_all first | exact ⟨rfl, Or.inl rfl, by decide, by decide⟩ | exact ⟨rfl, Or.inr (Or.inl rfl), by decide, by decide⟩ | exact ⟨rfl, Or.inr (Or.inr rfl), by decide, by decide⟩
      apply q_int
      with_unfolding_all exact op_sub
      with_unfolding_all exact op_mod
      with_unfolding_all exact ⟨nd, rfl, Or.inl rfl, rfl, Or.inl rfl⟩
      apply q_then
      apply q_set (i := 5)
      apply q_tupA
      apply q_cons
      apply q_str
      apply q_cons
      apply q_var (i := 1)
      with_unfolding_all first | exact ⟨rfl, Or.inl rfl, by decide, by decide⟩ | exact ⟨rfl, Or.inr (Or.inl rfl), by decide, by decide⟩ | exact ⟨rfl, Or.inr (Or.inr rfl), by decide, by decide⟩
      apply q_cons
      apply q_var (i := 4)
      with_unfolding_all first | exact ⟨rfl, Or.inl rfl, by decide, by decide⟩ | exact ⟨rfl, Or.inr (Or.inl rfl), by decide, by decide⟩ | exact ⟨rfl, Or.inr (Or.inr rfl), by decide, by decide⟩
      apply q_cons
      apply q_call
      apply q_cons
      apply q_var (i := 0)
      with_unfolding_all first | exact ⟨rfl, Or.inl rfl, by decide, by decide⟩ | exact ⟨rfl, Or.inr (Or.inl rfl), by decide, by decide⟩ | exact ⟨rfl, Or.inr (Or.inr rfl), by decide, by decide⟩
      apply q_cons
      apply q_int
      apply q_nil
      with_unfolding_all exact rfl
      with_unfolding_all exact rfl
      with_unfolding_all exact ⟨C__law_words, hr.mono (by decide), rfl, passes_none, rfl, by decide⟩
      apply q_nil
      with_unfolding_all exact rfl
      with_unfolding_all exact rfl
      with_unfolding_all exact rfl
      with_unfolding_all exact rfl
      with_unfolding_all exact ⟨nd, rfl, Or.inl rfl, rfl, Or.inl rfl⟩
      apply q_then
      apply q_set (i := 6)
      apply q_tupA
      apply q_cons
      apply q_str
      apply q_cons
      apply q_var (i := 1)
      with_unfolding_all first | exact ⟨rfl, Or.inl rfl, by decide, by decide⟩ | exact ⟨rfl, Or.inr (Or.inl rfl), by decide, by decide⟩ | exact ⟨rfl, Or.inr (Or.inr rfl), by decide, by decide⟩
      apply q_cons
      apply q_var (i := 4)
      with_unfolding_all first | exact ⟨rfl, Or.inl rfl, by decide, by decide⟩ | exact ⟨rfl, Or.inr (Or.inl rfl), by decide, by decide⟩ | exact ⟨rfl, Or.inr (Or.inr rfl), by decide, by decide⟩
      apply q_cons
      apply q_call
      apply q_cons
      apply q_var (i := 0)
      with_unfolding_all first | exact ⟨rfl, Or.inl rfl, by decide, by decide⟩ | exact ⟨rfl, Or.inr (Or.inl rfl), by decide, by decide⟩ | exact ⟨rfl, Or.inr (Or.inr rfl), by decide, by decide⟩
      apply q_cons
      apply q_int
      apply q_nil
      with_unfolding_all exact rfl
      with_unfolding_all exact rfl
      with_unfolding_all exact ⟨C__law_words, hr.mono (by decide), rfl, passes_none, rfl, by decide⟩
      apply q_nil
      with_unfolding_all exact rfl
      with_unfolding_all exact rfl
      with_unfolding_all exact rfl
      with_unfolding_all exact rfl
      with_unfolding_all exact ⟨nd, rfl, Or.inl rfl, rfl, Or.inl rfl⟩
      apply q_then
      apply q_set (i := 7)
      apply q_tupA
      apply q_cons
      apply q_str
      apply q_cons
      apply q_var (i := 1)
      with_unfolding_all first | exact ⟨rfl, Or.inl rfl, by decide, by decide⟩ | exact ⟨rfl, Or.inr (Or.inl rfl), by decide, by decide⟩ | exact ⟨rfl, Or.inr (Or.inr rfl), by decide, by decide⟩
      apply q_cons
      apply q_var (i := 4)
      with_unfolding_all first | exact ⟨rfl, Or.inl rfl, by decide, by decide⟩ | exact ⟨rfl, Or.inr (Or.inl rfl), by decide, by decide⟩ | exact ⟨rfl, Or.inr (Or.inr rfl), by decide, by decide⟩
      apply q_cons
      apply q_non
      apply q_nil
      with_unfolding_all exact rfl
      with_unfolding_all exact rfl
      with_unfolding_all exact rfl
      with_unfolding_all exact rfl
      with_unfolding_all exact ⟨nd, rfl, Or.inl rfl, rfl, Or.inl rfl⟩
      apply q_then
      apply q_set (i := 8)
      apply q_tupA
      apply q_cons
      apply q_str
      apply q_cons
      apply q_var (i := 1)
      with_unfolding_all first | exact ⟨rfl, Or.inl rfl, by decide, by decide⟩ | exact ⟨rfl, Or.inr (Or.inl rfl), by decide, by decide⟩ | exact ⟨rfl, Or.inr (Or.inr rfl), by decide, by decide⟩
      apply q_cons
      apply q_op
      apply q_var (i := 4)
      with_unfolding_all first | exact ⟨rfl, Or.inl rfl, by decide, by decide⟩ | exact ⟨rfl, Or.inr (Or.inl rfl), by decide, by decide⟩ | exact ⟨rfl, Or.inr (Or.inr rfl), by decide, by decide⟩
      apply q_int
      with_unfolding_all exact kaddB (K := K) rfl
      apply q_cons
      apply q_call
      apply q_cons
      apply q_var (i := 0)
      with_unfolding_all first | exact ⟨rfl, Or.inl rfl, by decide, by decide⟩ | exact ⟨rfl, Or.inr (Or.inl rfl), by decide, by decide⟩ | exact ⟨rfl, Or.inr (Or.inr rfl), by decide, by decide⟩
      apply q_cons
      apply q_int
      apply q_nil
      with_unfolding_all exact rfl
      with_unfolding_all exact rfl
      with_unfolding_all exact ⟨C__law_words, hr.mono (by decide), rfl, passes_none, rfl, by decide⟩
      apply q_nil
      with_unfolding_all exact rfl
      with_unfolding_all exact rfl
      with_unfolding_all exact rfl
      with_unfolding_all exact rfl
      with_unfolding_all exact ⟨nd, rfl, Or.inl rfl, rfl, Or.inl rfl⟩
      apply q_then
      apply q_set (i := 9)
      apply q_lstA
      apply q_cons
      apply q_lstA
      apply q_nil
      apply q_cons
      apply q_lstA
      apply q_cons
      apply q_var (i := 5)
      with_unfolding_all first | exact ⟨rfl, Or.inl rfl, by decide, by decide⟩ | exact ⟨rfl, Or.inr (Or.inl rfl), by decide, by decide⟩ | exact ⟨rfl, Or.inr (Or.inr rfl), by decide, by decide⟩
      apply q_nil
      with_unfolding_all exact rfl
      apply q_cons
      apply q_lstA
      apply q_cons
      apply q_var (i := 6)
      with_unfolding_all first | exact ⟨rfl, Or.inl rfl, by decide, by decide⟩ | exact ⟨rfl, Or.inr (Or.inl rfl), by decide, by decide⟩ | exact ⟨rfl, Or.inr (Or.inr rfl), by decide, by decide⟩
      apply q_nil
      with_unfolding_all exact rfl
      apply q_cons
      apply q_lstA
      apply q_cons
      apply q_var (i := 7)
      with_unfolding_all first | exact ⟨rfl, Or.inl rfl, by decide, by decide⟩ | exact ⟨rfl, Or.inr (Or.inl rfl), by decide, by decide⟩ | exact ⟨rfl, Or.inr (Or.inr rfl), by decide, by decide⟩
      apply q_nil
      with_unfolding_all exact rfl
      apply q_cons
      apply q_lstA
      apply q_cons
      apply q_tupA
      apply q_cons
      apply q_str
      apply q_cons
      apply q_var (i := 1)
      with_unfolding_all first | exact ⟨rfl, Or.inl rfl, by decide, by decide⟩ | exact ⟨rfl, Or.inr (Or.inl rfl), by decide, by decide⟩ | exact ⟨rfl, Or.inr (Or.inr rfl), by decide, by decide⟩
      apply q_cons
      apply q_var (i := 4)
      with_unfolding_all first | exact ⟨rfl, Or.inl rfl, by decide, by decide⟩ | exact ⟨rfl, Or.inr (Or.inl rfl), by decide, by decide⟩ | exact ⟨rfl, Or.inr (Or.inr rfl), by decide, by decide⟩
      apply q_cons
      apply q_call
      apply q_cons
      apply q_var (i := 0)
      with_unfolding_all first | exact ⟨rfl, Or.inl rfl, by decide, by decide⟩ | exact ⟨rfl, Or.inr (Or.inl rfl), by decide, by decide⟩ | exact ⟨rfl, Or.inr (Or.inr rfl), by decide, by decide⟩
      apply q_cons
      apply q_int
      apply q_nil
      with_unfolding_all exact rfl
      with_unfolding_all exact rfl
      with_unfolding_all exact ⟨C__law_words, hr.mono (by decide), rfl, passes_none, rfl, by decide⟩
      apply q_nil
      with_unfolding_all exact rfl
      with_unfolding_all exact rfl
      with_unfolding_all exact rfl
      with_unfolding_all exact rfl
      apply q_nil
      with_unfolding_all exact rfl
      apply q_cons
      apply q_lstA
      apply q_cons
      apply q_var (i := 7)
      with_unfolding_all first | exact ⟨rfl, Or.inl rfl, by decide, by decide⟩ | exact ⟨rfl, Or.inr (Or.inl rfl), by decide, by decide⟩ | exact ⟨rfl, Or.inr (Or.inr rfl), by decide, by decide⟩
      apply q_cons
      apply q_var (i := 8)
      with_unfolding_all first | exact ⟨rfl, Or.inl rfl, by decide, by decide⟩ | exact ⟨rfl, Or.inr (Or.inl rfl), by decide, by decide⟩ | exact ⟨rfl, Or.inr (Or.inr rfl), by decide, by decide⟩
      apply q_nil
      with_unfolding_all exact rfl
      with_unfolding_all exact rfl
      apply q_nil
      with_unfolding_all exact rfl
      with_unfolding_all exact rfl
      with_unfolding_all exact rfl
      with_unfolding_all exact rfl
      with_unfolding_all exact rfl
      with_unfolding_all exact rfl
      with_unfolding_all exact ⟨nd, rfl, Or.inl rfl, rfl, Or.inl rfl⟩
      apply q_then
      apply q_expr
      apply q_bm (K := K)
      apply q_var (i := 9)
      with_unfolding_all first | exact ⟨rfl, Or.inl rfl, by decide, by decide⟩ | exact ⟨rfl, Or.inr (Or.inl rfl), by decide, by decide⟩ | exact ⟨rfl, Or.inr (Or.inr rfl), by decide, by decide⟩
      apply q_cons
      apply q_lstA
      apply q_cons
      apply q_var (i := 6)
      with_unfolding_all first | exact ⟨rfl, Or.inl rfl, by decide, by decide⟩ | exact ⟨rfl, Or.inr (Or.inl rfl), by decide, by decide⟩ | exact ⟨rfl, Or.inr (Or.inr rfl), by decide, by decide⟩
      apply q_cons
      apply q_var (i := 8)
      with_unfolding_all first | exact ⟨rfl, Or.inl rfl, by decide, by decide⟩ | exact ⟨rfl, Or.inr (Or.inl rfl), by decide, by decide⟩ | exact ⟨rfl, Or.inr (Or.inr rfl), by decide, by decide⟩
      apply q_nil
      with_unfolding_all exact rfl
      with_unfolding_all exact rfl
      apply q_nil
      with_unfolding_all exact rfl
      with_unfolding_all exact ⟨rfl, mt_append, PySem.F.plainAttrs_list, PySem.F.slot_list_append, PySem.F.type_list_append, rfl, rfl, rfl, rfl⟩
      with_unfolding_all exact rfl
      apply q_last
      apply q_ret
      apply q_ix
      apply q_var (i := 9)
      with_unfolding_all first | exact ⟨rfl, Or.inl rfl, by decide, by decide⟩ | exact ⟨rfl, Or.inr (Or.inl rfl), by decide, by decide⟩ | exact ⟨rfl, Or.inr (Or.inr rfl), by decide, by decide⟩
      apply q_op
      apply q_var (i := 3)
      with_unfolding_all first | exact ⟨rfl, Or.inl rfl, by decide, by decide⟩ | exact ⟨rfl, Or.inr (Or.inl rfl), by decide, by decide⟩ | exact ⟨rfl, Or.inr (Or.inr rfl), by decide, by decide⟩
      apply q_int
      with_unfolding_all exact op_mod
      with_unfolding_all exact ⟨kix (K := K) rfl, fun _ _ => rfl⟩
    refine ⟨_, rfl, .inl ⟨_, _, rfl, rfl, .inr ⟨by decide, by decide⟩, _, _, rfl, rfl, (by show (0 : Int) < 2147483587; decide), ?_⟩⟩
    dsimp only [gName]
    generalize c * 16807 % 2147483587 = mx
    refine st_norm (σ' := [some (.int c), some (.int ((ln : Nat) : Int)), some (.int ((n : Nat) : Int)), some (.int mx), none, none, none, none, none, none]) rfl ?_
    refine ⟨_, rfl, _, _, rfl, rfl, ⟨by decide, by decide⟩, _, rfl, _, _, rfl, rfl, _, _, rfl, rfl, (by show (0 : Int) < ((n : Nat) : Int) - 1; omega), ?_⟩
    dsimp only [gName]
    generalize mx / 7 % (((n : Nat) : Int) - 1) = nr
    refine st_norm (σ' := [some (.int c), some (.int ((ln : Nat) : Int)), some (.int ((n : Nat) : Int)), some (.int mx), some (.int nr), none, none, none, none, none]) rfl ?_
    refine ⟨_, rfl, _, rfl, _, rfl, _, _, rfl, fun y5 w5 H1 s1 d5 => ⟨z4, fun t5 H2 n2 => ?_⟩⟩
    have D5 : DT H2 (.ref t5) (ltD ("lowered", ln, nr, some w5)) := n2.tup (.cons (.str _) (.cons (.int _) (.cons (.int _) (.cons d5 .nil))))
    dsimp only [gName]
    refine st_norm (σ' := [some (.int c), some (.int ((ln : Nat) : Int)), some (.int ((n : Nat) : Int)), some (.int mx), some (.int nr), some (.ref t5), none, none, none, none]) rfl ?_
    refine ⟨_, rfl, _, rfl, _, rfl, _, _, rfl, fun y6 w6 H3 s3 d6 => ⟨z4, fun t6 H4 n4 => ?_⟩⟩
    have D6 : DT H4 (.ref t6) (ltD ("yielded", ln, nr, some w6)) := n4.tup (.cons (.str _) (.cons (.int _) (.cons (.int _) (.cons d6 .nil))))
    dsimp only [gName]
    refine st_norm (σ' := [some (.int c), some (.int ((ln : Nat) : Int)), some (.int ((n : Nat) : Int)), some (.int mx), some (.int nr), some (.ref t5), some (.ref t6), none, none, none]) rfl ?_
    refine ⟨_, rfl, _, rfl, z4, fun t7 H5 n5 => ?_⟩
    have D7 : DT H5 (.ref t7) (ltD ("yielded", ln, nr, none)) := n5.tup (.cons (.str _) (.cons (.int _) (.cons (.int _) (.cons .non .nil))))
    dsimp only [gName]
    refine st_norm (σ' := [some (.int c), some (.int ((ln : Nat) : Int)), some (.int ((n : Nat) : Int)), some (.int mx), some (.int nr), some (.ref t5), some (.ref t6), some (.ref t7), none, none]) rfl ?_
    refine ⟨_, rfl, _, rfl, .inl ⟨_, _, rfl, rfl, _, rfl, _, _, rfl, fun y8 w8 H6 s6 d8 => ⟨z4, fun t8 H7 n7 => ?_⟩⟩⟩
    have D8 : DT H7 (.ref t8) (ltD ("lowered", ln, nr + 1, some w8)) := n7.tup (.cons (.str _) (.cons (.int _) (.cons (.int _) (.cons d8 .nil))))
    dsimp only [gName]
    refine st_norm (σ' := [some (.int c), some (.int ((ln : Nat) : Int)), some (.int ((n : Nat) : Int)), some (.int mx), some (.int nr), some (.ref t5), some (.ref t6), some (.ref t7), some (.ref t8), none]) rfl ?_
    have s57 := s6.trans n7.2.1
    have s47 := n5.2.1.trans s57
    have s27 := s3.trans (n4.2.1.trans s47)
    have s07 := s1.trans (n2.2.1.trans s27)
    replace D5 := D5.keep s27
    replace D6 := D6.keep s47
    replace D7 := D7.keep s57
    refine ⟨Nat.zero_le _, fun a1 H8 n8 => ⟨_, rfl, z1, fun a2 H9 n9 => ⟨_, rfl, z1, fun a3 H10 n10 => ⟨_, rfl, z1, fun a4 H11 n11 => ⟨_, rfl, _, rfl, _, rfl, _, _, rfl, fun y9 w9 H12 s12 d9 => ⟨z4, fun t9 H13 n13 => ⟨z1, fun a5 H14 n14 => ⟨_, rfl, _, rfl, z2, fun a6 H15 n15 => ⟨(by show 6 ≤ sizeLine; decide), fun lo H16 n16 => ?_⟩⟩⟩⟩⟩⟩⟩⟩⟩
    have D9 : DT H13 (.ref t9) (ltD ("back", ln, nr, some w9)) := n13.tup (.cons (.str _) (.cons (.int _) (.cons (.int _) (.cons d9 .nil))))
    have x15 := n15.2.1
    have x14 := n14.2.1.trans x15
    have x11 := s12.trans (n13.2.1.trans x14)
    have x10 := n11.2.1.trans x11
    have x9 := n10.2.1.trans x10
    have x8 := n9.2.1.trans x9
    have x7 := n8.2.1.trans x8
    have y8 := n8.2.1
    have y9 := y8.trans n9.2.1
    have y10 := y9.trans n10.2.1
    have y14 := y10.trans (n11.2.1.trans (s12.trans (n13.2.1.trans n14.2.1)))
    have m1 : LsOk ln H15 a1 := (LsOk.mk0 n8).keep x8
    have m2 : LsOk ln H15 a2 := (LsOk.mk1 n9 (D5.keep y8) rfl).keep x9
    have m3 : LsOk ln H15 a3 := (LsOk.mk1 n10 (D6.keep y9) rfl).keep x10
    have m4 : LsOk ln H15 a4 := (LsOk.mk1 n11 (D7.keep y10) rfl).keep x11
    have m5 : LsOk ln H15 a5 := (LsOk.mk1 n14 D9 rfl).keep x15
    have m6 : LsOk ln H15 a6 := LsOk.mk2 n15 (D7.keep y14) rfl (D8.keep y14) rfl
    dsimp only [gName]
    refine st_norm (σ' := [some (.int c), some (.int ((ln : Nat) : Int)), some (.int ((n : Nat) : Int)), some (.int mx), some (.int nr), some (.ref t5), some (.ref t6), some (.ref t7), some (.ref t8), some (.ref lo)]) rfl ?_
    refine ⟨_, rfl, .inl ⟨rfl, _, SqL.of n16.2.2⟩, _, rfl, _, rfl, z2, fun a7 H17 n17 => ?_⟩
    have lo17 := n17.2.1 _ _ n16.2.2
    have m7 : LsOk ln H17 a7 := LsOk.mk2 n17 (D6.keep (x7.trans n16.2.1)) rfl (D8.keep (x7.trans n16.2.1)) rfl
    have nel : ∀ {p : Addr}, LsOk ln H15 p → p ≠ lo := fun {p} ⟨xs, ls, h, _⟩ z => by
      have := n16.1
      rw [← z, h] at this
      cases this
    have ne7 : a7 ≠ lo := fun z => by
      have := n17.1
      rw [z, n16.2.2] at this
      cases this
    have s1517 := n16.2.1.trans n17.2.1
    refine ⟨lo, _, _, rfl, rfl, lo17, small1000 (by show 6 ≤ 1000; decide), ?_⟩
    have allm : ∀ p ∈ [a1, a2, a3, a4, a5, a6, a7], LsOk ln (L2.upd H17 lo (.lst ([V.ref a1, V.ref a2, V.ref a3, V.ref a4, V.ref a5, V.ref a6] ++ [V.ref a7]))) p := by
      intro p hp
      simp only [List.mem_cons, List.not_mem_nil, or_false] at hp
      rcases hp with rfl | rfl | rfl | rfl | rfl | rfl | rfl
      · exact (m1.keep s1517).upd lo17 (nel m1)
      · exact (m2.keep s1517).upd lo17 (nel m2)
      · exact (m3.keep s1517).upd lo17 (nel m3)
      · exact (m4.keep s1517).upd lo17 (nel m4)
      · exact (m5.keep s1517).upd lo17 (nel m5)
      · exact (m6.keep s1517).upd lo17 (nel m6)
      · exact m7.upd lo17 ne7
    have sE : Same H (L2.upd H17 lo (.lst ([V.ref a1, V.ref a2, V.ref a3, V.ref a4, V.ref a5, V.ref a6] ++ [V.ref a7]))) := Same.updD ((s07.trans x7).free n16.1) (s07.trans (x7.trans s1517))
    have eL : (L2.upd H17 lo (.lst ([V.ref a1, V.ref a2, V.ref a3, V.ref a4, V.ref a5, V.ref a6] ++ [V.ref a7]))) lo = some (.lst ([V.ref a1, V.ref a2, V.ref a3, V.ref a4, V.ref a5, V.ref a6] ++ [V.ref a7])) := upd_same
    generalize L2.upd H17 lo (.lst ([V.ref a1, V.ref a2, V.ref a3, V.ref a4, V.ref a5, V.ref a6] ++ [V.ref a7])) = HE at allm sE eL ⊢
    obtain ⟨p, ep, hp⟩ : ∃ p, atI ([V.ref a1, V.ref a2, V.ref a3, V.ref a4, V.ref a5, V.ref a6] ++ [V.ref a7]) (mx % 7) = some (.ref p) ∧ p ∈ [a1, a2, a3, a4, a5, a6, a7] := by
      rcases (by omega : mx % 7 = 0 ∨ mx % 7 = 1 ∨ mx % 7 = 2 ∨ mx % 7 = 3 ∨ mx % 7 = 4 ∨ mx % 7 = 5 ∨ mx % 7 = 6) with e | e | e | e | e | e | e <;> rw [e]
      · exact ⟨a1, rfl, by simp⟩
      · exact ⟨a2, rfl, by simp⟩
      · exact ⟨a3, rfl, by simp⟩
      · exact ⟨a4, rfl, by simp⟩
      · exact ⟨a5, rfl, by simp⟩
      · exact ⟨a6, rfl, by simp⟩
      · exact ⟨a7, rfl, by simp⟩
    obtain ⟨xs, ls, h1, h2, h3, h4⟩ := allm p hp
    exact ⟨_, rfl, _, rfl, _, _, rfl, rfl, (by show (0 : Int) < 7; decide), .inl ⟨lo, _, _, _, rfl, rfl, SqL.of eL, ep, q p xs ls HE sE h1 h2 h3 h4⟩⟩
def spDue : Sp := fun vs H Q _ => ∃ (a b : Addr) (x : V) (xs ys : List V) (row : List C2) (ls : List LT) (h : Hm), vs = [.ref a, x, .ref b] ∧ H a = some (.lst xs) ∧ DTs H xs (row.map c2D) ∧ H b = some (.lst ys) ∧ DTs H ys (ls.map ltD) ∧ DT H x (hmD h) ∧ (∀ n, h.2 = some n → n < row.length) ∧ ∀ y H', Same H H' → DT H' y (wD (dueW row ls h)) → Q y H'
theorem scDue : FnScope ["_law_states_here", "_law_home_here", "_law_letters_here", "_law_kind", "_law_words_here", "_law_letter"] ["_law_states_here", "_law_home_here", "_law_letters_here"] (defScope sDue) := ⟨rfl, rfl, rfl, by decide +kernel, rfl, by decide +kernel, by decide +kernel⟩
theorem ok_due {f : Addr} {fd : FuncData} (F : Fun K "_law_due" "_law_due" sDue f fd) : FnOk P w K mg base CX0 1 f fd ["_law_states_here", "_law_home_here", "_law_letters_here"] spDue := by
  refine F.ok scDue (fun vs H Q E h => ?_) (fun cdv A outer s H vs Q E hr h => ?_)
  · obtain ⟨a, b, x, xs, ys, row, ls, h, rfl, _⟩ := h
    rfl
  · obtain ⟨a, b, x, xs, ys, row, ls, ⟨ws, wr⟩, rfl, ha, hd, hb, hds, hx, hwr, q⟩ := h
    have nd := scDue.nd
    have xl : xs.length = row.length := by rw [hd.length, List.length_map]
    have yl : ys.length = ls.length := by rw [hds.length, List.length_map]
    obtain ⟨t5, v1, v2, v3, v4, v5, rfl, ht5, g1, g2, g3, g4, g5⟩ := DT.five hx
    obtain rfl := wrV_of g2
    dsimp only at hwr
    apply body_of
    (conv => arg 2; whnf)
    with_reducible
      apply q_then
      apply q_for
      apply q_iseq (K := K)
      apply q_var (i := 0)
      with_unfolding_all first | exact ⟨rfl, Or.inl rfl, by decide, by decide⟩ | exact ⟨rfl, Or.inr (Or.inl rfl), by decide, by decide⟩ | exact ⟨rfl, Or.inr (Or.inr rfl), by decide, by decide⟩
      with_unfolding_all exact rfl
      apply q_gtup (K := K)
      apply q_gcons
      apply q_name (i := 3)
      with_unfolding_all exact ⟨nd, rfl, Or.inl rfl, Or.inl rfl⟩
      apply q_gcons
      apply q_name (i := 4)
      with_unfolding_all exact ⟨nd, rfl, Or.inl rfl, Or.inl rfl⟩
      apply q_gnil
      with_unfolding_all exact rfl
      with_unfolding_all exact rfl
      with_unfolding_all exact ⟨rfl, rfl, rfl⟩
      apply q_last
      apply q_if
      apply q_tcmp
      apply q_var (i := 3)
      with_unfolding_all first | exact ⟨rfl, Or.inl rfl, by decide, by decide⟩ | exact ⟨rfl, Or.inr (Or.inl rfl), by decide, by decide⟩ | exact ⟨rfl, Or.inr (Or.inr rfl), by decide, by decide⟩
      apply q_str
      with_unfolding_all exact ⟨keq (K := K) rfl hr.units, nomark _⟩
      apply q_last
      apply q_ret
      apply q_var (i := 4)
      with_unfolding_all first | exact ⟨rfl, Or.inl rfl, by decide, by decide⟩ | exact ⟨rfl, Or.inr (Or.inl rfl), by decide, by decide⟩ | exact ⟨rfl, Or.inr (Or.inr rfl), by decide, by decide⟩
      apply q_end
      with_unfolding_all exact ⟨PassesOwn.never, rfl, fun _ => rfl⟩
      apply q_then
      apply q_for
      apply q_iseq (K := K)
      apply q_var (i := 2)
      with_unfolding_all first | exact ⟨rfl, Or.inl rfl, by decide, by decide⟩ | exact ⟨rfl, Or.inr (Or.inl rfl), by decide, by decide⟩ | exact ⟨rfl, Or.inr (Or.inr rfl), by decide, by decide⟩
      with_unfolding_all exact rfl
      apply q_name (i := 5)
      with_unfolding_all exact ⟨nd, rfl, Or.inl rfl, Or.inl rfl⟩
      apply q_last
      apply q_if
      apply q_bool
      apply q_wand
      apply q_tcmp
      apply q_ix
      apply q_var (i := 5)
      with_unfolding_all first | exact ⟨rfl, Or.inl rfl, by decide, by decide⟩ | exact ⟨rfl, Or.inr (Or.inl rfl), by decide, by decide⟩ | exact ⟨rfl, Or.inr (Or.inr rfl), by decide, by decide⟩
      apply q_int
      with_unfolding_all exact ⟨kix (K := K) rfl, fun _ _ => rfl⟩
      apply q_tupA
      apply q_cons
      apply q_str
      apply q_cons
      apply q_str
      apply q_nil
      with_unfolding_all exact rfl
      with_unfolding_all exact rfl
      with_unfolding_all exact ⟨kinB (K := K) rfl hr.units, rfl⟩
      apply q_wand1
      apply q_tcmp
      apply q_ix
      apply q_var (i := 5)
      with_unfolding_all first | exact ⟨rfl, Or.inl rfl, by decide, by decide⟩ | exact ⟨rfl, Or.inr (Or.inl rfl), by decide, by decide⟩ | exact ⟨rfl, Or.inr (Or.inr rfl), by decide, by decide⟩
      apply q_int
      with_unfolding_all exact ⟨kix (K := K) rfl, fun _ _ => rfl⟩
      apply q_non
      with_unfolding_all exact ⟨op_notN, nomark _⟩
      apply q_last
      apply q_ret
      apply q_ix
      apply q_var (i := 5)
      with_unfolding_all first | exact ⟨rfl, Or.inl rfl, by decide, by decide⟩ | exact ⟨rfl, Or.inr (Or.inl rfl), by decide, by decide⟩ | exact ⟨rfl, Or.inr (Or.inr rfl), by decide, by decide⟩
      apply q_int
      with_unfolding_all exact ⟨kix (K := K) rfl, fun _ _ => rfl⟩
      apply q_end
      with_unfolding_all exact ⟨PassesOwn.never, rfl, fun _ => rfl⟩
      apply q_then
      apply q_if
      apply q_bool
      apply q_wand
      apply q_tcmp
      apply q_ix
      apply q_var (i := 1)
      with_unfolding_all first | exact ⟨rfl, Or.inl rfl, by decide, by decide⟩ | exact ⟨rfl, Or.inr (Or.inl rfl), by decide, by decide⟩ | exact ⟨rfl, Or.inr (Or.inr rfl), by decide, by decide⟩
      apply q_int
      with_unfolding_all exact ⟨kix (K := K) rfl, fun _ _ => rfl⟩
      apply q_non
      with_unfolding_all exact ⟨op_notN, nomark _⟩
      apply q_wand1
      apply q_tcmp
      apply q_ix
      apply q_ix
      apply q_var (i := 0)
      with_unfolding_all first | exact ⟨rfl, Or.inl rfl, by decide, by decide⟩ | exact ⟨rfl, Or.inr (Or.inl rfl), by decide, by decide⟩ | exact ⟨rfl, Or.inr (Or.inr rfl), by decide, by decide⟩
      apply q_ix
      apply q_var (i := 1)
      with_unfolding_all first | exact ⟨rfl, Or.inl rfl, by decide, by decide⟩ | exact ⟨rfl, Or.inr (Or.inl rfl), by decide, by decide⟩ | exact ⟨rfl, Or.inr (Or.inr rfl), by decide, by decide⟩
      apply q_int
      with_unfolding_all exact ⟨kix (K := K) rfl, fun _ _ => rfl⟩
      with_unfolding_all exact ⟨kix (K := K) rfl, fun _ _ => rfl⟩
      apply q_int
      with_unfolding_all exact ⟨kix (K := K) rfl, fun _ _ => rfl⟩
      apply q_str
      with_unfolding_all exact ⟨keq (K := K) rfl hr.units, nomark _⟩
      apply q_last
      apply q_ret
      apply q_ix
      apply q_ix
      apply q_var (i := 0)
      with_unfolding_all first | exact ⟨rfl, Or.inl rfl, by decide, by decide⟩ | exact ⟨rfl, Or.inr (Or.inl rfl), by decide, by decide⟩ | exact ⟨rfl, Or.inr (Or.inr rfl), by decide, by decide⟩
      apply q_ix
      apply q_var (i := 1)
      with_unfolding_all first | exact ⟨rfl, Or.inl rfl, by decide, by decide⟩ | exact ⟨rfl, Or.inr (Or.inl rfl), by decide, by decide⟩ | exact ⟨rfl, Or.inr (Or.inr rfl), by decide, by decide⟩
      apply q_int
      with_unfolding_all exact ⟨kix (K := K) rfl, fun _ _ => rfl⟩
      with_unfolding_all exact ⟨kix (K := K) rfl, fun _ _ => rfl⟩
      apply q_int
      with_unfolding_all exact ⟨kix (K := K) rfl, fun _ _ => rfl⟩
      apply q_end
      apply q_last
      apply q_ret
      apply q_ix
      apply q_var (i := 1)
      with_unfolding_all first | exact ⟨rfl, Or.inl rfl, by decide, by decide⟩ | exact ⟨rfl, Or.inr (Or.inl rfl), by decide, by decide⟩ | exact ⟨rfl, Or.inr (Or.inr rfl), by decide, by decide⟩
      apply q_int
      with_unfolding_all exact ⟨kix (K := K) rfl, fun _ _ => rfl⟩
    refine .inl ⟨_, rfl, a, rfl, ⟨_, SqL.of ha⟩, for_list (K := K) (a := a) (xs := xs) (fun i σ H' => ∃ v3 v4, σ = [some (.ref a), some (.ref t5), some (.ref b), v3, v4, none] ∧ H' = H ∧ (row.take i).filter isWr = []) ⟨_, _, rfl, rfl, by simp⟩ (fun i σ H' _ ⟨_, _, _, e, _⟩ => e ▸ SqL.of ha) ?_ ?_⟩
    · rintro i x σ H' hxx ⟨w3, w4, rfl, rfl, h0⟩
      have hi : i < row.length := by have := (List.getElem?_eq_some_iff.mp hxx).1; omega
      obtain ⟨t, u, v, c, ex, ec, ht, hv, rfl, hu⟩ := cell_of hd hi
      obtain rfl : V.ref t = x := Option.some.inj (ex.symm.trans hxx)
      refine ⟨t, _, rfl, SqT.of ht, rfl, _, _, rfl, _, _, rfl, rfl, ?_⟩
      dsimp only [gName]
      refine st_norm (σ' := [some (.ref a), some (.ref t5), some (.ref b), some (.str c.1), some v, none]) rfl ?_
      refine ⟨_, rfl, .inl ⟨rfl, _, rfl, iteS (fun z => ?_) (fun z => ?_)⟩⟩
      · obtain ⟨r, er⟩ := filter_head h0 ec (show isWr c = true from decide_eq_true z)
        refine ⟨_, rfl, q v H' (Same.refl _) ?_⟩
        unfold dueW dueL
        rw [er]
        exact hv
      · exact next_ ⟨_, _, rfl, rfl, filter_step h0 ec (show isWr c = false from decide_eq_false z)⟩
    rintro σ H' ⟨w3, w4, rfl, rfl, h0⟩
    rw [xl, List.take_length] at h0
    refine .inl ⟨_, rfl, b, rfl, ⟨_, SqL.of hb⟩, for_list (K := K) (a := b) (xs := ys) (fun i σ Hx => ∃ v5, σ = [some (.ref a), some (.ref t5), some (.ref b), w3, w4, v5] ∧ Same H' Hx ∧ (ls.take i).filter brB = []) ⟨_, rfl, Same.refl _, by simp⟩ (fun i σ Hx _ ⟨_, _, s', _⟩ => SqL.of (s' _ _ hb)) ?_ ?_⟩
    · rintro i x σ H1 hxx ⟨w5, rfl, s1, h1⟩
      obtain ⟨d, ed, hxd⟩ := hds.get hxx
      rw [List.getElem?_map] at ed
      obtain ⟨l, el, rfl⟩ : ∃ l, ls[i]? = some l ∧ ltD l = d := by
        cases e : ls[i]? with
        | none => rw [e] at ed; cases ed
        | some l => rw [e] at ed; exact ⟨l, rfl, Option.some.inj ed⟩
      obtain ⟨t, u1, u2, u3, u4, rfl, ht, c1, c2, c3, c4⟩ := DT.four (hxd.keep s1)
      obtain rfl := c1.strI
      dsimp only [gName]
      refine st_norm (σ' := [some (.ref a), some (.ref t5), some (.ref b), w3, w4, some (.ref t)]) rfl ?_
      refine ⟨_, rfl, .inr (.inl ⟨t, _, _, _, rfl, rfl, SqT.of ht, at_nat (j := 0) rfl rfl, (by show 2 ≤ sizeLine; decide), fun p H2 n2 => .inl (.inl ⟨p, _, rfl, .inr (SqT.of n2.2.2), rfl, rfl, _, rfl, ?_⟩)⟩)⟩
      rw [in2V]
      have ht2 := n2.2.1 _ _ ht
      refine iteB (fun z => ?_) (fun z => ?_)
      · refine ⟨_, rfl, .inr (.inl ⟨t, _, _, _, rfl, rfl, SqT.of ht2, at_nat (j := 3) rfl rfl, rfl, _, rfl, ?_⟩)⟩
        rw [c4.wNon, Bool.not_not]
        refine iteB (fun y => ?_) (fun y => ?_)
        · obtain ⟨r, er⟩ := filter_head h1 el (show brB l = true by unfold brB; rw [z, y]; rfl)
          refine ⟨_, rfl, .inr (.inl ⟨t, _, _, _, rfl, rfl, SqT.of ht2, at_nat (j := 3) rfl rfl, q u4 H2 (s1.trans n2.2.1) ?_⟩)⟩
          unfold dueW dueL
          rw [h0, er]
          exact c4.keep n2.2.1
        · exact next_ ⟨_, rfl, s1.trans n2.2.1, filter_step h1 el (by unfold brB; rw [z, y]; rfl)⟩
      · exact iteF (next_ ⟨_, rfl, s1.trans n2.2.1, filter_step h1 el (by unfold brB; rw [z]; rfl)⟩)
    rintro σ H1 ⟨w5, rfl, s1, h1⟩
    rw [yl, List.take_length] at h1
    have ht1 := s1 _ _ ht5
    have q' : ∀ y Hx, Same H' Hx → DT Hx y (wD ((atL row wr ++ [some ws]).head?.getD none)) → Q y Hx := fun y Hx s' hy => q y Hx s' (by
      unfold dueW dueL
      rw [h0, h1]
      exact hy)
    dsimp only
    refine ⟨_, rfl, .inr (.inl ⟨t5, _, _, _, rfl, rfl, SqT.of ht1, at_nat (j := 1) rfl rfl, rfl, _, rfl, ?_⟩)⟩
    have fin : atL row wr = [] → Q v1 H1 := fun z => q' v1 H1 s1 (by rw [z]; exact g1.keep s1)
    cases wr with
    | none => exact iteF (next_ ⟨_, rfl, .inr (.inl ⟨t5, _, _, _, rfl, rfl, SqT.of ht1, at_nat (j := 0) rfl rfl, fin rfl⟩)⟩)
    | some m =>
      have hm := hwr m rfl
      obtain ⟨t, u, v, c, ex, ec, ht, hv, rfl, hu⟩ := cell_of (hd.keep s1) hm
      have ha1 := s1 _ _ ha
      refine iteT ⟨_, rfl, _, rfl, .inr (.inl ⟨t5, _, _, _, rfl, rfl, SqT.of ht1, at_nat (j := 1) rfl rfl, .inl ⟨a, _, _, _, rfl, rfl, SqL.of ha1, at_nat (j := m) ex rfl, .inr (.inl ⟨t, _, _, _, rfl, rfl, SqT.of ht, at_nat (j := 0) rfl rfl, .inl ⟨rfl, _, rfl, iteS (fun z => ?_) (fun z => ?_)⟩⟩)⟩⟩)⟩
      · refine ⟨_, rfl, _, rfl, .inr (.inl ⟨t5, _, _, _, rfl, rfl, SqT.of ht1, at_nat (j := 1) rfl rfl, .inl ⟨a, _, _, _, rfl, rfl, SqL.of ha1, at_nat (j := m) ex rfl, .inr (.inl ⟨t, _, _, _, rfl, rfl, SqT.of ht, at_nat (j := 1) rfl rfl, q' v H1 s1 ?_⟩)⟩⟩)⟩
        have : atL row (some m) = [c.2] := by
          unfold atL
          dsimp only
          rw [ec]
          exact if_pos (decide_eq_true z)
        rw [this]
        exact hv
      · refine next_ ⟨_, rfl, .inr (.inl ⟨t5, _, _, _, rfl, rfl, SqT.of ht1, at_nat (j := 0) rfl rfl, fin ?_⟩)⟩
        unfold atL
        dsimp only
        rw [ec]
        exact if_neg (show ¬ isLw c = true by unfold isLw; rw [decide_eq_false z]; exact Bool.false_ne_true)
end
end K66

set_option Elab.async false
set_option linter.all false
set_option maxRecDepth 100000
set_option maxHeartbeats 1000000
namespace K66
open PySem L2
theorem comp_lRD {K : PySem.W.Frag} {a D : Addr} {σ0 : St} {i0 : Nat} {tc : TT} {te : TE} {Q : VK} {H1 : Hp} {xs : List V} (R : Nat → List V → Hp → Prop) (hD : H1 D = none) (hl : SqL K H1 a xs) (hn : xs.length ≤ 1000000)
    (h0 : R 0 [] (L2.upd H1 D (.lst []))) (hlen : ∀ i ys H, R i ys H → ys.length ≤ i) (hu : ∀ i ys H zs us, R i ys H → H D = some (.lst zs) → R i ys (L2.upd H D (.lst us)))
    (he : ∀ (i : Nat) x H ys (Qy : VK) (Qn : Hp → Prop), xs[i]? = some x → Same H1 H → H D = some (.lst ys) → R i ys H → (∀ H' y, Same H H' → R (i + 1) (ys ++ [y]) H' → Qy y H') → (∀ H', Same H H' → R (i + 1) ys H' → Qn H') → tc (σ0.set i0 (some x)) H fun b H3 => if b = true then te (σ0.set i0 (some x)) H3 Qy else Qn H3)
    (hq : ∀ H' ys, Same H1 H' → R xs.length ys H' → H' D = some (.lst ys) → Q (.ref D) H') :
    ∃ W : Nat → Nat → Hp → Prop, (∃ m, W 0 m (L2.upd H1 D (.lst []))) ∧ compW (Itl K a) D σ0 i0 tc te Q W :=
  comp_RD xs R hD hn (fun i x H s e => ⟨xs, x, s.seq hl, e⟩) (fun H s => ⟨xs, s.seq hl, Nat.le_refl _⟩) (fun i x H H' s _ y => ⟨y.1, y.2 xs (s.seq hl)⟩) h0 hlen hu he hq
theorem wdShp (w : Wd) : Shp 1 (wD w) := by
  cases w with
  | none => exact .non
  | some ns =>
    refine .tup fun d hd => ?_
    obtain ⟨i, _, rfl⟩ := List.mem_map.mp hd
    exact .int i
section
variable {P : Program} {w : World} {K : PySem.W.Frag} {mg : Str → Option Value} {base : Heap} {aC cN : Addr}
def spStore : Sp := fun vs H Q _ => ∃ (a : Addr) (k n : Nat) (qs : List Addr) (A : List (List C2)), vs = [.ref a, .int ((k : Nat) : Int)] ∧ H a = some (.lst (qs.map V.ref)) ∧ Cols H qs A ∧ A.length ≤ 8 ∧ (∀ row ∈ A, row.length = n) ∧ n ≤ 8 ∧ k < n ∧
  ∀ x us H', Same H H' → DT H' x (stoD (storeRows A k, us, .tuple [])) → Q x H'
theorem scStore : FnScope ["_law_all_states", "_law_near", "_law_rows", "_law_used", "_law_line", "_law_kind", "_law_words_here"] ["_law_all_states", "_law_near"] (defScope sStore) := ⟨rfl, rfl, rfl, by decide +kernel, rfl, by decide +kernel, by decide +kernel⟩
theorem ok_store {f : Addr} {fd : FuncData} (F : Fun K "_law_store" "_law_store" sStore f fd) (Z : Bl mg) : FnOk P w K mg base CX0 2 f fd ["_law_all_states", "_law_near"] spStore := by
  refine F.ok scStore (fun vs H Q E h => ?_) (fun cdv A outer s H vs Q E hr h => ?_)
  · obtain ⟨a, k, n, qs, A, rfl, _⟩ := h
    rfl
  · obtain ⟨a, k, n, qs, A, rfl, ha, hC, hA, hrow, hn, hk, q⟩ := h
    have nd := scStore.nd
    have ql := hC.length
    have z3 : 3 ≤ sizeLine := by decide
    apply body_of
    (conv => arg 2; whnf)
    with_reducible
      apply q_then
      apply q_set (i := 2)
      apply q_lstA
      apply q_nil
      with_unfolding_all exact ⟨nd, rfl, Or.inl rfl, rfl, Or.inl rfl⟩
      apply q_then
      apply q_set (i := 3)
      apply q_lstA
      apply q_nil
      with_unfolding_all exact ⟨nd, rfl, Or.inl rfl, rfl, Or.inl rfl⟩
      apply q_then
      apply q_for
      apply q_irange1
      apply q_cons
      apply q_cb
      apply q_cons
      apply q_var (i := 0)
      with_unfolding_all first | exact ⟨rfl, Or.inl rfl, by decide, by decide⟩ | exact ⟨rfl, Or.inr (Or.inl rfl), by decide, by decide⟩ | exact ⟨rfl, Or.inr (Or.inr rfl), by decide, by decide⟩
      apply q_nil
      with_unfolding_all exact rfl
      with_unfolding_all exact ⟨klen (K := K) rfl, Z.len, bb_len, rfl, rfl, by decide, by decide⟩
      apply q_nil
      with_unfolding_all exact rfl
      with_unfolding_all exact ⟨Z.range, rfl, rfl⟩
      apply q_name (i := 4)
      with_unfolding_all exact ⟨nd, rfl, Or.inl rfl, Or.inl rfl⟩
      apply q_then
      apply q_unpack
      apply q_ix
      apply q_ix
      apply q_var (i := 0)
      with_unfolding_all first | exact ⟨rfl, Or.inl rfl, by decide, by decide⟩ | exact ⟨rfl, Or.inr (Or.inl rfl), by decide, by decide⟩ | exact ⟨rfl, Or.inr (Or.inr rfl), by decide, by decide⟩
      apply q_var (i := 4)
      with_unfolding_all first | exact ⟨rfl, Or.inl rfl, by decide, by decide⟩ | exact ⟨rfl, Or.inr (Or.inl rfl), by decide, by decide⟩ | exact ⟨rfl, Or.inr (Or.inr rfl), by decide, by decide⟩
      with_unfolding_all exact ⟨kix (K := K) rfl, fun _ _ => rfl⟩
      apply q_var (i := 1)
      with_unfolding_all first | exact ⟨rfl, Or.inl rfl, by decide, by decide⟩ | exact ⟨rfl, Or.inr (Or.inl rfl), by decide, by decide⟩ | exact ⟨rfl, Or.inr (Or.inr rfl), by decide, by decide⟩
      with_unfolding_all exact ⟨kix (K := K) rfl, fun _ _ => rfl⟩
      apply q_gtup (K := K)
      apply q_gcons
      apply q_name (i := 5)
      with_unfolding_all exact ⟨nd, rfl, Or.inl rfl, Or.inl rfl⟩
      apply q_gcons
      apply q_name (i := 6)
      with_unfolding_all exact ⟨nd, rfl, Or.inl rfl, Or.inl rfl⟩
      apply q_gnil
      with_unfolding_all exact rfl
      with_unfolding_all exact rfl
      with_unfolding_all exact ⟨rfl, rfl, rfl⟩
      with_unfolding_all exact ⟨rfl, rfl⟩
      apply q_then
      apply q_if
      apply q_tcmp
      apply q_var (i := 5)
      with_unfolding_all first | exact ⟨rfl, Or.inl rfl, by decide, by decide⟩ | exact ⟨rfl, Or.inr (Or.inl rfl), by decide, by decide⟩ | exact ⟨rfl, Or.inr (Or.inr rfl), by decide, by decide⟩
      apply q_str
      with_unfolding_all exact ⟨kne (K := K) rfl hr.units, nomark _⟩
      apply q_last
      apply q_expr
      apply q_bm (K := K)
      apply q_var (i := 2)
      with_unfolding_all first | exact ⟨rfl, Or.inl rfl, by decide, by decide⟩ | exact ⟨rfl, Or.inr (Or.inl rfl), by decide, by decide⟩ | exact ⟨rfl, Or.inr (Or.inr rfl), by decide, by decide⟩
      apply q_cons
      apply q_tupA
      apply q_cons
      apply q_var (i := 4)
      with_unfolding_all first | exact ⟨rfl, Or.inl rfl, by decide, by decide⟩ | exact ⟨rfl, Or.inr (Or.inl rfl), by decide, by decide⟩ | exact ⟨rfl, Or.inr (Or.inr rfl), by decide, by decide⟩
      apply q_cons
      apply q_var (i := 5)
      with_unfolding_all first | exact ⟨rfl, Or.inl rfl, by decide, by decide⟩ | exact ⟨rfl, Or.inr (Or.inl rfl), by decide, by decide⟩ | exact ⟨rfl, Or.inr (Or.inr rfl), by decide, by decide⟩
      apply q_cons
      apply q_var (i := 6)
      with_unfolding_all first | exact ⟨rfl, Or.inl rfl, by decide, by decide⟩ | exact ⟨rfl, Or.inr (Or.inl rfl), by decide, by decide⟩ | exact ⟨rfl, Or.inr (Or.inr rfl), by decide, by decide⟩
      apply q_nil
      with_unfolding_all exact rfl
      with_unfolding_all exact rfl
      with_unfolding_all exact rfl
      apply q_nil
      with_unfolding_all exact rfl
      with_unfolding_all exact ⟨rfl, mt_append, PySem.F.plainAttrs_list, PySem.F.slot_list_append, PySem.F.type_list_append, rfl, rfl, rfl, rfl⟩
      with_unfolding_all exact rfl
      apply q_end
      apply q_last
      apply q_if
      apply q_tcmp
      apply q_var (i := 5)
      with_unfolding_all first | exact ⟨rfl, Or.inl rfl, by decide, by decide⟩ | exact ⟨rfl, Or.inr (Or.inl rfl), by decide, by decide⟩ | exact ⟨rfl, Or.inr (Or.inr rfl), by decide, by decide⟩
      apply q_tupA
      apply q_cons
      apply q_str
      apply q_cons
      apply q_str
      apply q_nil
      with_unfolding_all exact rfl
      with_unfolding_all exact rfl
      with_unfolding_all exact ⟨kinB (K := K) rfl hr.units, rfl⟩
      apply q_last
      apply q_expr
      apply q_bm (K := K)
      apply q_var (i := 3)
      with_unfolding_all first | exact ⟨rfl, Or.inl rfl, by decide, by decide⟩ | exact ⟨rfl, Or.inr (Or.inl rfl), by decide, by decide⟩ | exact ⟨rfl, Or.inr (Or.inr rfl), by decide, by decide⟩
      apply q_cons
      apply q_var (i := 4)
      with_unfolding_all first | exact ⟨rfl, Or.inl rfl, by decide, by decide⟩ | exact ⟨rfl, Or.inr (Or.inl rfl), by decide, by decide⟩ | exact ⟨rfl, Or.inr (Or.inr rfl), by decide, by decide⟩
      apply q_nil
      with_unfolding_all exact rfl
      with_unfolding_all exact ⟨rfl, mt_append, PySem.F.plainAttrs_list, PySem.F.slot_list_append, PySem.F.type_list_append, rfl, rfl, rfl, rfl⟩
      with_unfolding_all exact rfl
      apply q_end
      with_unfolding_all exact ⟨PassesOwn.never, rfl, fun _ => rfl⟩
      apply q_last
      apply q_ret
      apply q_tupA
      apply q_cons
      apply q_ct
      apply q_cons
      apply q_var (i := 2)
      with_unfolding_all first | exact ⟨rfl, Or.inl rfl, by decide, by decide⟩ | exact ⟨rfl, Or.inr (Or.inl rfl), by decide, by decide⟩ | exact ⟨rfl, Or.inr (Or.inr rfl), by decide, by decide⟩
      apply q_nil
      with_unfolding_all exact rfl
      with_unfolding_all exact ⟨ktupleB (K := K) rfl, Z.tuple, bb_tuple, rfl, rfl, by decide, by decide⟩
      apply q_cons
      apply q_ct
      apply q_cons
      apply q_var (i := 3)
      with_unfolding_all first | exact ⟨rfl, Or.inl rfl, by decide, by decide⟩ | exact ⟨rfl, Or.inr (Or.inl rfl), by decide, by decide⟩ | exact ⟨rfl, Or.inr (Or.inr rfl), by decide, by decide⟩
      apply q_nil
      with_unfolding_all exact rfl
      with_unfolding_all exact ⟨ktupleB (K := K) rfl, Z.tuple, bb_tuple, rfl, rfl, by decide, by decide⟩
      apply q_cons
      apply q_tupA
      apply q_nil
      apply q_nil
      with_unfolding_all exact rfl
      with_unfolding_all exact rfl
      with_unfolding_all exact rfl
    refine ⟨Nat.zero_le _, fun b1 H1 n1 => ?_⟩
    dsimp only [gName]
    refine st_norm (σ' := [some (.ref a), some (.int ((k : Nat) : Int)), some (.ref b1), none, none, none, none]) rfl ?_
    refine ⟨Nat.zero_le _, fun b2 H2 n2 => ?_⟩
    dsimp only [gName]
    refine st_norm (σ' := [some (.ref a), some (.int ((k : Nat) : Int)), some (.ref b1), some (.ref b2), none, none, none]) rfl ?_
    have s02 := n1.2.1.trans n2.2.1
    have b12 : b1 ≠ b2 := fun z => by have := n2.1; rw [← z, n1.2.2] at this; cases this
    have h2 : H b2 = none := n1.2.1.free n2.1
    refine ⟨_, rfl, .inl ⟨a, _, rfl, .inl (SqL.of (s02 _ _ ha)), _, rfl, by rw [List.length_map]; omega, by rw [List.length_map]; omega, for_range (n := _) (fun i σ H' => ∃ v4 v5 v6 xs us, σ = [some (.ref a), some (.int ((k : Nat) : Int)), some (.ref b1), some (.ref b2), v4, v5, v6] ∧ Same H H' ∧ H' b1 = some (.lst xs) ∧ DTs H' xs (((List.range i).filterMap (storeF A k)).map r3D) ∧ H' b2 = some (.lst ((us : List Int).map V.int)) ∧ us.length ≤ i) ⟨_, _, _, [], [], rfl, s02, n2.2.1 _ _ n1.2.2, .nil, n2.2.2, Nat.zero_le _⟩ ?_ ?_⟩⟩
    · rintro i σ H3 hi ⟨v4, v5, v6, xs, us, rfl, s3, hb1, hd1, hb2, hul⟩
      rw [Int.toNat_natCast, List.length_map, ql] at hi
      dsimp only [gName]
      rw [Int.zero_add]
      refine st_norm (σ' := [some (.ref a), some (.int ((k : Nat) : Int)), some (.ref b1), some (.ref b2), some (.int ((i : Nat) : Int)), v5, v6]) rfl ?_
      obtain ⟨y, ey⟩ : ∃ y, (qs.map V.ref)[i]? = some y := ⟨_, List.getElem?_eq_getElem (by rw [List.length_map, ql]; exact hi)⟩
      obtain ⟨g, zs, row, rfl, er, hg, hz⟩ := (hC.keep s3).get ey
      have hrl := hrow row (List.mem_of_getElem? er)
      obtain ⟨t, u, v, c, ex, ec, ht, hv, rfl, hu⟩ := cell_of hz (i := k) (by omega)
      refine ⟨_, rfl, _, rfl, .inl ⟨a, _, _, _, rfl, rfl, SqL.of (s3 _ _ ha), at_nat (j := i) ey rfl, _, rfl, .inl ⟨g, _, _, _, rfl, rfl, SqL.of hg, at_nat (j := k) ex rfl, t, _, rfl, SqT.of ht, rfl, _, _, rfl, _, _, rfl, rfl, ?_⟩⟩⟩
      dsimp only [gName]
      refine st_norm (σ' := [some (.ref a), some (.int ((k : Nat) : Int)), some (.ref b1), some (.ref b2), some (.int ((i : Nat) : Int)), some (.str c.1), some v]) rfl ?_
      have rs := take_range (g := storeF A k) i
      have rk : storeF A k i = if c.1 = ("away" : Str) then none else some (i, c) := by unfold storeF; rw [er, Option.bind_some, ec, Option.bind_some]
      have hxl : xs.length ≤ i := by
        rw [hd1.length, List.length_map]
        have := List.length_filterMap_le (storeF A k) (List.range i)
        rwa [List.length_range] at this
      refine cut (fun σ H4 => ∃ xs, σ = [some (.ref a), some (.int ((k : Nat) : Int)), some (.ref b1), some (.ref b2), some (.int ((i : Nat) : Int)), some (.str c.1), some v] ∧ Same H H4 ∧ H4 b1 = some (.lst xs) ∧ DTs H4 xs (((List.range (i + 1)).filterMap (storeF A k)).map r3D) ∧ H4 b2 = some (.lst (us.map V.int))) ?t1 fun tl => ?h1
      case h1 =>
        refine ⟨_, rfl, .inl ⟨rfl, _, rfl, iteNo (fun z => ?_) (fun z => ?_)⟩⟩
        · refine ⟨_, rfl, .inl ⟨rfl, _, SqL.of hb1⟩, _, rfl, _, rfl, _, rfl, z3, fun p H4 n4 => ⟨b1, _, _, rfl, rfl, n4.2.1 _ _ hb1, small1000 (by omega), tl _ _ ⟨xs ++ [.ref p], rfl, Same.updD n1.1 (s3.trans n4.2.1), upd_same, ?_, ?_⟩⟩⟩
          · rw [rs, rk, if_neg z, Option.toList_some, List.map_append]
            exact ((hd1.keep n4.2.1).snoc (n4.tup (.cons (.int _) (.cons (.str _) (.cons hv .nil))))).kt (kt_upd (n4.2.1 _ _ hb1))
          · rw [upd_ne (Ne.symm b12)]
            exact n4.2.1 _ _ hb2
        · refine tl _ _ ⟨xs, rfl, s3, hb1, ?_, hb2⟩
          rw [rs, rk, if_pos z]
          simpa using hd1
      rintro σ H4 ⟨xs, rfl, s4, hb1, hd1, hb2⟩
      refine ⟨_, rfl, (by show 2 ≤ sizeLine; decide), fun p7 H7 n7 => .inl (.inl ⟨p7, _, rfl, .inr (SqT.of n7.2.2), rfl, rfl, _, rfl, ?_⟩)⟩
      have s47 := n7.2.1
      refine iteB (fun _ => ?_) (fun _ => ?_)
      · have hb7 := s47 _ _ hb2
        refine ⟨_, rfl, .inl ⟨rfl, _, SqL.of hb7⟩, _, rfl, b2, _, _, rfl, rfl, hb7, small1000 (by rw [List.length_map]; omega), ⟨_, _, _, xs, us ++ [((i : Nat) : Int)], rfl, Same.updD h2 (s4.trans s47), ?_, (hd1.keep s47).kt (kt_upd hb7), ?_, by simp; omega⟩⟩
        · rw [upd_ne b12]
          exact s47 _ _ hb1
        · rw [upd_same, List.map_append]
          rfl
      · exact ⟨_, _, _, xs, us, rfl, s4.trans s47, s47 _ _ hb1, hd1.keep s47, s47 _ _ hb2, by omega⟩
    rintro σ H3 ⟨v4, v5, v6, xs, us, rfl, s3, hb1, hd1, hb2, hul⟩
    rw [Int.toNat_natCast, List.length_map, ql] at hd1
    refine ⟨_, rfl, b1, _, rfl, .inl ⟨SqL.of hb1, fun g1 H4 n4 => ⟨_, rfl, b2, _, rfl, .inl ⟨SqL.of (n4.2.1 _ _ hb2), fun g2 H5 n5 => ⟨Nat.zero_le _, fun g3 H6 n6 => ⟨z3, fun g4 H7 n7 => ?_⟩⟩⟩⟩⟩⟩
    refine q (.ref g4) (.tuple (us.map PyData.int)) H7 (s3.trans (n4.2.1.trans (n5.2.1.trans (n6.2.1.trans n7.2.1)))) ?_
    exact n7.tup (.cons ((n4.tup hd1).keep (n5.2.1.trans n6.2.1)) (.cons ((n5.tup (DTs.ints us)).keep n6.2.1) (.cons (n6.tup .nil) .nil)))
theorem scLaw : FnScope ["_law_script", "_law_nears", "_law_lines", "_law_cells", "_law_all_states", "_law_homes", "_law_letters_here", "_law_due_here", "_law_line", "_law_some", "_law_stores", "_law_handed", "_law_found"] ["_law_script"] (defScope sLaw) := ⟨rfl, rfl, rfl, by decide +kernel, rfl, by decide +kernel, by decide +kernel⟩
theorem ok_law {f : Addr} {fd : FuncData} (F : Fun K "law" "law" sLaw f fd) (Z : Bl mg) (C__law_cell_at : CalD P w K mg base (CXE P w) 1 "_law_cell_at" ["_law_script", "_law_k"] [] (spCellAt K)) (C__law_states : CalD P w K mg base (CXE P w) 2 "_law_states" ["_law_cell", "_law_nears"] [] spStatesL) (C__law_home : CalD P w K mg base (CXE P w) 2 "_law_home" ["_law_cell", "_law_states_here"] [] spHome)
    (C__law_letters : CalD P w K mg base (CXE P w) 2 "_law_letters" ["_law_cell", "_law_line", "_law_nears"] [] spLetters) (C__law_due : CalD P w K mg base (CXE P w) 1 "_law_due" ["_law_states_here", "_law_home_here", "_law_letters_here"] [] spDue) (C__law_store : CalD P w K mg base (CXE P w) 2 "_law_store" ["_law_all_states", "_law_near"] [] spStore) (C_last_words : CalD P w K mg base (CXE P w) 2 "last_words" ["picture", "line"] [] spLast) : FnOk P w K mg base CX0 3 f fd ["_law_script"] (spLaw K) := by
  refine F.ok scLaw (fun vs H Q E h => ?_) (fun cdv A outer s H vs Q E hr h => ?_)
  · obtain ⟨a, ns, rfl, _⟩ := h
    rfl
  · obtain ⟨a, ns, rfl, hS, hlen, k⟩ := h
    have nd := scLaw.nd
    have z3 : 3 ≤ sizeLine := by decide
    apply body_of
    (conv => arg 2; whnf)
    with_reducible
      apply q_then
      apply q_set (i := 1)
      apply q_op
      apply q_int
      apply q_op
      apply q_call
      apply q_cons
      apply q_var (i := 0)
      with_unfolding_all first | exact ⟨rfl, Or.inl rfl, by decide, by decide⟩ | exact ⟨rfl, Or.inr (Or.inl rfl), by decide, by decide⟩ | exact ⟨rfl, Or.inr (Or.inr rfl), by decide, by decide⟩
      apply q_cons
      apply q_int
      apply q_nil
      with_unfolding_all exact rfl
      with_unfolding_all exact rfl
      with_unfolding_all exact ⟨C__law_cell_at, hr.mono (by decide), rfl, passes_none, rfl, by decide⟩
      apply q_int
      with_unfolding_all exact op_mod
      with_unfolding_all exact kaddB (K := K) rfl
      with_unfolding_all exact ⟨nd, rfl, Or.inr rfl, rfl, Or.inl rfl⟩
      apply q_then
      apply q_set (i := 2)
      apply q_op
      apply q_int
      apply q_op
      apply q_op
      apply q_call
      apply q_cons
      apply q_var (i := 0)
      with_unfolding_all first | exact ⟨rfl, Or.inl rfl, by decide, by decide⟩ | exact ⟨rfl, Or.inr (Or.inl rfl), by decide, by decide⟩ | exact ⟨rfl, Or.inr (Or.inr rfl), by decide, by decide⟩
      apply q_cons
      apply q_int
      apply q_nil
      with_unfolding_all exact rfl
      with_unfolding_all exact rfl
      with_unfolding_all exact ⟨C__law_cell_at, hr.mono (by decide), rfl, passes_none, rfl, by decide⟩
      apply q_int
      with_unfolding_all exact op_fdiv
      apply q_int
      with_unfolding_all exact op_mod
      with_unfolding_all exact kaddB (K := K) rfl
      with_unfolding_all exact ⟨nd, rfl, Or.inl rfl, rfl, Or.inl rfl⟩
      apply q_then
      apply q_setC (i := 3)
      apply q_comp (N' := ["_law_script", "_law_line"]) (ix := [some 0, none]) (i0 := 1)
      apply q_irange1
      apply q_cons
      apply q_var (i := 2)
      with_unfolding_all first | exact ⟨rfl, Or.inl rfl, by decide, by decide⟩ | exact ⟨rfl, Or.inr (Or.inl rfl), by decide, by decide⟩ | exact ⟨rfl, Or.inr (Or.inr rfl), by decide, by decide⟩
      apply q_nil
      with_unfolding_all exact rfl
      with_unfolding_all exact ⟨Z.range, rfl, rfl⟩
      intro cl C s2 H2 fp
      apply q_ifnil
      intro cl C s2 H2 fp
      apply q_call
      apply q_cons
      apply q_var (i := 0)
      with_unfolding_all first | exact ⟨rfl, Or.inl rfl, by decide, by decide⟩ | exact ⟨rfl, Or.inr (Or.inl rfl), by decide, by decide⟩ | exact ⟨rfl, Or.inr (Or.inr rfl), by decide, by decide⟩
      apply q_cons
      apply q_op
      apply q_int
      apply q_var (i := 1)
      with_unfolding_all first | exact ⟨rfl, Or.inl rfl, by decide, by decide⟩ | exact ⟨rfl, Or.inr (Or.inl rfl), by decide, by decide⟩ | exact ⟨rfl, Or.inr (Or.inr rfl), by decide, by decide⟩
      with_unfolding_all exact kaddB (K := K) rfl
      apply q_nil
      with_unfolding_all exact rfl
      with_unfolding_all exact rfl
      with_unfolding_all exact ⟨C__law_cell_at, hr.mono (by decide), rfl, passes_none, rfl, by decide⟩
      with_unfolding_all exact ⟨by kernel_rfl, rfl, rfl, rfl, rfl, fun _ => rfl⟩
      with_unfolding_all exact ⟨nd, rfl, Or.inr rfl, rfl, Or.inl rfl⟩
      apply q_then
      apply q_setC (i := 4)
      apply q_comp (N' := ["_law_nears", "_law_cell"]) (ix := [some 1, none]) (i0 := 1)
      apply q_iseq (K := K)
      apply q_var (i := 3)
      with_unfolding_all first | exact ⟨rfl, Or.inl rfl, by decide, by decide⟩ | exact ⟨rfl, Or.inr (Or.inl rfl), by decide, by decide⟩ | exact ⟨rfl, Or.inr (Or.inr rfl), by decide, by decide⟩
      with_unfolding_all exact rfl
      intro cl C s2 H2 fp
      apply q_ifnil
      intro cl C s2 H2 fp
      apply q_call
      apply q_cons
      apply q_var (i := 1)
      with_unfolding_all first | exact ⟨rfl, Or.inl rfl, by decide, by decide⟩ | exact ⟨rfl, Or.inr (Or.inl rfl), by decide, by decide⟩ | exact ⟨rfl, Or.inr (Or.inr rfl), by decide, by decide⟩
      apply q_cons
      apply q_var (i := 0)
      with_unfolding_all first | exact ⟨rfl, Or.inl rfl, by decide, by decide⟩ | exact ⟨rfl, Or.inr (Or.inl rfl), by decide, by decide⟩ | exact ⟨rfl, Or.inr (Or.inr rfl), by decide, by decide⟩
      apply q_nil
      with_unfolding_all exact rfl
      with_unfolding_all exact rfl
      with_unfolding_all exact ⟨C__law_states, hr.mono (by decide), rfl, passes_none, rfl, by decide⟩
      with_unfolding_all exact ⟨by kernel_rfl, rfl, rfl, rfl, rfl, fun _ => rfl⟩
      with_unfolding_all exact ⟨nd, rfl, Or.inr rfl, rfl, Or.inl rfl⟩
      apply q_then
      apply q_setcomp (N' := ["_law_cells", "_law_all_states", "_law_line"]) (ix := [some 3, some 4, none]) (i0 := 2) (i := 5)
      apply q_irange1
      apply q_cons
      apply q_var (i := 2)
      with_unfolding_all first | exact ⟨rfl, Or.inl rfl, by decide, by decide⟩ | exact ⟨rfl, Or.inr (Or.inl rfl), by decide, by decide⟩ | exact ⟨rfl, Or.inr (Or.inr rfl), by decide, by decide⟩
      apply q_nil
      with_unfolding_all exact rfl
      with_unfolding_all exact ⟨Z.range, rfl, rfl⟩
      intro cl C s2 H2 fp
      apply q_ifnil
      intro cl C s2 H2 fp
      apply q_call
      apply q_cons
      apply q_ix
      apply q_var (i := 0)
      with_unfolding_all first | exact ⟨rfl, Or.inl rfl, by decide, by decide⟩ | exact ⟨rfl, Or.inr (Or.inl rfl), by decide, by decide⟩ | exact ⟨rfl, Or.inr (Or.inr rfl), by decide, by decide⟩
      apply q_var (i := 2)
      with_unfolding_all first | exact ⟨rfl, Or.inl rfl, by decide, by decide⟩ | exact ⟨rfl, Or.inr (Or.inl rfl), by decide, by decide⟩ | exact ⟨rfl, Or.inr (Or.inr rfl), by decide, by decide⟩
      with_unfolding_all exact ⟨kix (K := K) rfl, fun _ _ => rfl⟩
      apply q_cons
      apply q_ix
      apply q_var (i := 1)
      with_unfolding_all first | exact ⟨rfl, Or.inl rfl, by decide, by decide⟩ | exact ⟨rfl, Or.inr (Or.inl rfl), by decide, by decide⟩ | exact ⟨rfl, Or.inr (Or.inr rfl), by decide, by decide⟩
      apply q_var (i := 2)
      with_unfolding_all first | exact ⟨rfl, Or.inl rfl, by decide, by decide⟩ | exact ⟨rfl, Or.inr (Or.inl rfl), by decide, by decide⟩ | exact ⟨rfl, Or.inr (Or.inr rfl), by decide, by decide⟩
      with_unfolding_all exact ⟨kix (K := K) rfl, fun _ _ => rfl⟩
      apply q_nil
      with_unfolding_all exact rfl
      with_unfolding_all exact rfl
      with_unfolding_all exact ⟨C__law_home, hr.mono (by decide), rfl, passes_none, rfl, by decide⟩
      with_unfolding_all exact ⟨by kernel_rfl, rfl, rfl, rfl, rfl, nd, rfl, rfl, fun _ => rfl, rfl⟩
      apply q_then
      apply q_set (i := 6)
      apply q_lstA
      apply q_nil
      with_unfolding_all exact ⟨nd, rfl, Or.inl rfl, rfl, Or.inl rfl⟩
      apply q_then
      apply q_set (i := 7)
      apply q_lstA
      apply q_nil
      with_unfolding_all exact ⟨nd, rfl, Or.inl rfl, rfl, Or.inl rfl⟩
      apply q_then
      apply q_for
      apply q_irange1
      apply q_cons
      apply q_var (i := 2)
      with_unfolding_all first | exact ⟨rfl, Or.inl rfl, by decide, by decide⟩ | exact ⟨rfl, Or.inr (Or.inl rfl), by decide, by decide⟩ | exact ⟨rfl, Or.inr (Or.inr rfl), by decide, by decide⟩
      apply q_nil
      with_unfolding_all exact rfl
      with_unfolding_all exact ⟨Z.range, rfl, rfl⟩
      apply q_name (i := 8)
      with_unfolding_all exact ⟨nd, rfl, Or.inl rfl, Or.inl rfl⟩
      apply q_then
      apply q_set (i := 9)
      apply q_call
      apply q_cons
      apply q_ix
      apply q_var (i := 3)
      with_unfolding_all first | exact ⟨rfl, Or.inl rfl, by decide, by decide⟩ | exact ⟨rfl, Or.inr (Or.inl rfl), by decide, by decide⟩ | exact ⟨rfl, Or.inr (Or.inr rfl), by decide, by decide⟩
      apply q_var (i := 8)
      with_unfolding_all first | exact ⟨rfl, Or.inl rfl, by decide, by decide⟩ | exact ⟨rfl, Or.inr (Or.inl rfl), by decide, by decide⟩ | exact ⟨rfl, Or.inr (Or.inr rfl), by decide, by decide⟩
      with_unfolding_all exact ⟨kix (K := K) rfl, fun _ _ => rfl⟩
      apply q_cons
      apply q_var (i := 8)
      with_unfolding_all first | exact ⟨rfl, Or.inl rfl, by decide, by decide⟩ | exact ⟨rfl, Or.inr (Or.inl rfl), by decide, by decide⟩ | exact ⟨rfl, Or.inr (Or.inr rfl), by decide, by decide⟩
      apply q_cons
      apply q_var (i := 1)
      with_unfolding_all first | exact ⟨rfl, Or.inl rfl, by decide, by decide⟩ | exact ⟨rfl, Or.inr (Or.inl rfl), by decide, by decide⟩ | exact ⟨rfl, Or.inr (Or.inr rfl), by decide, by decide⟩
      apply q_nil
      with_unfolding_all exact rfl
      with_unfolding_all exact rfl
      with_unfolding_all exact rfl
      with_unfolding_all exact ⟨C__law_letters, hr.mono (by decide), rfl, passes_none, rfl, by decide⟩
      with_unfolding_all exact ⟨nd, rfl, Or.inl rfl, rfl, Or.inl rfl⟩
      apply q_then
      apply q_set (i := 6)
      apply q_op
      apply q_var (i := 6)
      with_unfolding_all first | exact ⟨rfl, Or.inl rfl, by decide, by decide⟩ | exact ⟨rfl, Or.inr (Or.inl rfl), by decide, by decide⟩ | exact ⟨rfl, Or.inr (Or.inr rfl), by decide, by decide⟩
      apply q_var (i := 9)
      with_unfolding_all first | exact ⟨rfl, Or.inl rfl, by decide, by decide⟩ | exact ⟨rfl, Or.inr (Or.inl rfl), by decide, by decide⟩ | exact ⟨rfl, Or.inr (Or.inr rfl), by decide, by decide⟩
      with_unfolding_all exact kaddB (K := K) rfl
      with_unfolding_all exact ⟨nd, rfl, Or.inl rfl, rfl, Or.inl rfl⟩
      apply q_last
      apply q_expr
      apply q_bm (K := K)
      apply q_var (i := 7)
      with_unfolding_all first | exact ⟨rfl, Or.inl rfl, by decide, by decide⟩ | exact ⟨rfl, Or.inr (Or.inl rfl), by decide, by decide⟩ | exact ⟨rfl, Or.inr (Or.inr rfl), by decide, by decide⟩
      apply q_cons
      apply q_call
      apply q_cons
      apply q_ix
      apply q_var (i := 4)
      with_unfolding_all first | exact ⟨rfl, Or.inl rfl, by decide, by decide⟩ | exact ⟨rfl, Or.inr (Or.inl rfl), by decide, by decide⟩ | exact ⟨rfl, Or.inr (Or.inr rfl), by decide, by decide⟩
      apply q_var (i := 8)
      with_unfolding_all first | exact ⟨rfl, Or.inl rfl, by decide, by decide⟩ | exact ⟨rfl, Or.inr (Or.inl rfl), by decide, by decide⟩ | exact ⟨rfl, Or.inr (Or.inr rfl), by decide, by decide⟩
      with_unfolding_all exact ⟨kix (K := K) rfl, fun _ _ => rfl⟩
      apply q_cons
      apply q_ix
      apply q_var (i := 5)
      with_unfolding_all first | exact ⟨rfl, Or.inl rfl, by decide, by decide⟩ | exact ⟨rfl, Or.inr (Or.inl rfl), by decide, by decide⟩ | exact ⟨rfl, Or.inr (Or.inr rfl), by decide, by decide⟩
      apply q_var (i := 8)
      with_unfolding_all first | exact ⟨rfl, Or.inl rfl, by decide, by decide⟩ | exact ⟨rfl, Or.inr (Or.inl rfl), by decide, by decide⟩ | exact ⟨rfl, Or.inr (Or.inr rfl), by decide, by decide⟩
      with_unfolding_all exact ⟨kix (K := K) rfl, fun _ _ => rfl⟩
      apply q_cons
      apply q_var (i := 9)
      with_unfolding_all first | exact ⟨rfl, Or.inl rfl, by decide, by decide⟩ | exact ⟨rfl, Or.inr (Or.inl rfl), by decide, by decide⟩ | exact ⟨rfl, Or.inr (Or.inr rfl), by decide, by decide⟩
      apply q_nil
      with_unfolding_all exact rfl
      with_unfolding_all exact rfl
      with_unfolding_all exact rfl
      with_unfolding_all exact ⟨C__law_due, hr.mono (by decide), rfl, passes_none, rfl, by decide⟩
      apply q_nil
      with_unfolding_all exact rfl
      with_unfolding_all exact ⟨rfl, mt_append, PySem.F.plainAttrs_list, PySem.F.slot_list_append, PySem.F.type_list_append, rfl, rfl, rfl, rfl⟩
      with_unfolding_all exact rfl
      with_unfolding_all exact ⟨PassesOwn.never, rfl, fun _ => rfl⟩
      apply q_then
      apply q_setcomp (N' := ["_law_all_states", "_law_near"]) (ix := [some 4, none]) (i0 := 1) (i := 10)
      apply q_irange1
      apply q_cons
      apply q_var (i := 1)
      with_unfolding_all first | exact ⟨rfl, Or.inl rfl, by decide, by decide⟩ | exact ⟨rfl, Or.inr (Or.inl rfl), by decide, by decide⟩ | exact ⟨rfl, Or.inr (Or.inr rfl), by decide, by decide⟩
      apply q_nil
      with_unfolding_all exact rfl
      with_unfolding_all exact ⟨Z.range, rfl, rfl⟩
      intro cl C s2 H2 fp
      apply q_ifnil
      intro cl C s2 H2 fp
      apply q_call
      apply q_cons
      apply q_var (i := 0)
      with_unfolding_all first | exact ⟨rfl, Or.inl rfl, by decide, by decide⟩ | exact ⟨rfl, Or.inr (Or.inl rfl), by decide, by decide⟩ | exact ⟨rfl, Or.inr (Or.inr rfl), by decide, by decide⟩
      apply q_cons
      apply q_var (i := 1)
      with_unfolding_all first | exact ⟨rfl, Or.inl rfl, by decide, by decide⟩ | exact ⟨rfl, Or.inr (Or.inl rfl), by decide, by decide⟩ | exact ⟨rfl, Or.inr (Or.inr rfl), by decide, by decide⟩
      apply q_nil
      with_unfolding_all exact rfl
      with_unfolding_all exact rfl
      with_unfolding_all exact ⟨C__law_store, hr.mono (by decide), rfl, passes_none, rfl, by decide⟩
      with_unfolding_all exact ⟨by kernel_rfl, rfl, rfl, rfl, rfl, nd, rfl, rfl, fun _ => rfl, rfl⟩
      apply q_then
      apply q_set (i := 11)
      apply q_tupA
      apply q_cons
      apply q_ct
      apply q_cons
      apply q_var (i := 10)
      with_unfolding_all first | exact ⟨rfl, Or.inl rfl, by decide, by decide⟩ | exact ⟨rfl, Or.inr (Or.inl rfl), by decide, by decide⟩ | exact ⟨rfl, Or.inr (Or.inr rfl), by decide, by decide⟩
      apply q_nil
      with_unfolding_all exact rfl
      with_unfolding_all exact ⟨ktupleB (K := K) rfl, Z.tuple, bb_tuple, rfl, rfl, by decide, by decide⟩
      apply q_cons
      apply q_ct
      apply q_cons
      apply q_var (i := 5)
      with_unfolding_all first | exact ⟨rfl, Or.inl rfl, by decide, by decide⟩ | exact ⟨rfl, Or.inr (Or.inl rfl), by decide, by decide⟩ | exact ⟨rfl, Or.inr (Or.inr rfl), by decide, by decide⟩
      apply q_nil
      with_unfolding_all exact rfl
      with_unfolding_all exact ⟨ktupleB (K := K) rfl, Z.tuple, bb_tuple, rfl, rfl, by decide, by decide⟩
      apply q_cons
      apply q_ct
      apply q_cons
      apply q_var (i := 6)
      with_unfolding_all first | exact ⟨rfl, Or.inl rfl, by decide, by decide⟩ | exact ⟨rfl, Or.inr (Or.inl rfl), by decide, by decide⟩ | exact ⟨rfl, Or.inr (Or.inr rfl), by decide, by decide⟩
      apply q_nil
      with_unfolding_all exact rfl
      with_unfolding_all exact ⟨ktupleB (K := K) rfl, Z.tuple, bb_tuple, rfl, rfl, by decide, by decide⟩
      apply q_nil
      with_unfolding_all exact rfl
      with_unfolding_all exact rfl
      with_unfolding_all exact rfl
      with_unfolding_all exact ⟨nd, rfl, Or.inl rfl, rfl, Or.inl rfl⟩
      apply q_then
      apply q_for
      apply q_iseq (K := K)
      apply q_op
      apply q_listR
      apply q_cons
      apply q_var (i := 2)
      with_unfolding_all first | exact ⟨rfl, Or.inl rfl, by decide, by decide⟩ | exact ⟨rfl, Or.inr (Or.inl rfl), by decide, by decide⟩ | exact ⟨rfl, Or.inr (Or.inr rfl), by decide, by decide⟩
      apply q_nil
      with_unfolding_all exact rfl
      with_unfolding_all exact ⟨rfl, Z.list, rfl, Z.range, rfl, rfl⟩
      apply q_listRev
      apply q_cons
      apply q_var (i := 2)
      with_unfolding_all first | exact ⟨rfl, Or.inl rfl, by decide, by decide⟩ | exact ⟨rfl, Or.inr (Or.inl rfl), by decide, by decide⟩ | exact ⟨rfl, Or.inr (Or.inr rfl), by decide, by decide⟩
      apply q_nil
      with_unfolding_all exact rfl
      with_unfolding_all exact ⟨rfl, Z.list, rfl, Z.reversed, rfl, Z.range, rfl, rfl⟩
      with_unfolding_all exact kaddB (K := K) rfl
      with_unfolding_all exact rfl
      apply q_name (i := 8)
      with_unfolding_all exact ⟨nd, rfl, Or.inl rfl, Or.inl rfl⟩
      apply q_then
      apply q_set (i := 12)
      apply q_call
      apply q_cons
      apply q_var (i := 11)
      with_unfolding_all first | exact ⟨rfl, Or.inl rfl, by decide, by decide⟩ | exact ⟨rfl, Or.inr (Or.inl rfl), by decide, by decide⟩ | exact ⟨rfl, Or.inr (Or.inr rfl), by decide, by decide⟩
      apply q_cons
      apply q_var (i := 8)
      with_unfolding_all first | exact ⟨rfl, Or.inl rfl, by decide, by decide⟩ | exact ⟨rfl, Or.inr (Or.inl rfl), by decide, by decide⟩ | exact ⟨rfl, Or.inr (Or.inr rfl), by decide, by decide⟩
      apply q_nil
      with_unfolding_all exact rfl
      with_unfolding_all exact rfl
      with_unfolding_all exact ⟨C_last_words, hr.mono (by decide), rfl, passes_none, rfl, by decide⟩
      with_unfolding_all exact ⟨nd, rfl, Or.inl rfl, rfl, Or.inl rfl⟩
      apply q_last
      apply q_if
      apply q_bool
      apply q_wor
      apply q_tnot
      apply q_tv
      apply q_isT (K := K)
      apply q_var (i := 12)
      with_unfolding_all first | exact ⟨rfl, Or.inl rfl, by decide, by decide⟩ | exact ⟨rfl, Or.inr (Or.inl rfl), by decide, by decide⟩ | exact ⟨rfl, Or.inr (Or.inr rfl), by decide, by decide⟩
      with_unfolding_all exact ⟨rfl, Z.isinstance, Z.tuple, bb_tuple, rfl, rfl, rfl, by decide, by decide⟩
      with_unfolding_all exact fun _ => rfl
      apply q_wor1
      apply q_tcmp
      apply q_var (i := 12)
      with_unfolding_all first | exact ⟨rfl, Or.inl rfl, by decide, by decide⟩ | exact ⟨rfl, Or.inr (Or.inl rfl), by decide, by decide⟩ | exact ⟨rfl, Or.inr (Or.inr rfl), by decide, by decide⟩
      apply q_ix
      apply q_var (i := 7)
      with_unfolding_all first | exact ⟨rfl, Or.inl rfl, by decide, by decide⟩ | exact ⟨rfl, Or.inr (Or.inl rfl), by decide, by decide⟩ | exact ⟨rfl, Or.inr (Or.inr rfl), by decide, by decide⟩
      apply q_var (i := 8)
      with_unfolding_all first | exact ⟨rfl, Or.inl rfl, by decide, by decide⟩ | exact ⟨rfl, Or.inr (Or.inl rfl), by decide, by decide⟩ | exact ⟨rfl, Or.inr (Or.inr rfl), by decide, by decide⟩
      with_unfolding_all exact ⟨kix (K := K) rfl, fun _ _ => rfl⟩
      with_unfolding_all exact ⟨kne (K := K) rfl hr.units, nomark _⟩
      apply q_last
      apply q_ret
      apply q_bl
      apply q_end
      with_unfolding_all exact ⟨PassesOwn.never, rfl, fun _ => rfl⟩
      apply q_last
      apply q_ret
      apply q_bl
    refine ⟨_, rfl, a, ns, 0, rfl, hS, fun z1 => ⟨_, _, rfl, rfl, (by show (0 : Int) < 4; decide), .inl ⟨_, _, rfl, rfl, ?_⟩⟩⟩
    dsimp only [gName]
    obtain ⟨n, en, hn0, hn1⟩ : ∃ n : Nat, 2 + z1 % 4 = ((n : Nat) : Int) ∧ 2 ≤ n ∧ n ≤ 5 := ⟨(2 + z1 % 4).toNat, by omega, by omega, by omega⟩
    rw [en]
    refine st_norm (σ' := [some (.ref a), some (.int ((n : Nat) : Int)), none, none, none, none, none, none, none, none, none, none, none]) rfl ?_
    refine ⟨_, rfl, a, ns, 0, rfl, hS, fun z2 => ⟨_, _, rfl, rfl, ⟨by decide, by decide⟩, _, _, rfl, rfl, (by show (0 : Int) < 4; decide), .inl ⟨_, _, rfl, rfl, ?_⟩⟩⟩
    dsimp only [gName]
    obtain ⟨l, el, hl0, hl1⟩ : ∃ l : Nat, 1 + z2 / 4 % 4 = ((l : Nat) : Int) ∧ 1 ≤ l ∧ l ≤ 4 := ⟨(1 + z2 / 4 % 4).toNat, by omega, by omega, by omega⟩
    rw [el]
    refine st_norm (σ' := [some (.ref a), some (.int ((n : Nat) : Int)), some (.int ((l : Nat) : Int)), none, none, none, none, none, none, none, none, none, none]) rfl ?_
    clear en el z1 z2
    -- the cells
    refine ⟨_, rfl, _, rfl, by omega, by omega, fun D0 hD0 => comp_rangeR (fun j ys H' => ∃ cs : List Int, ys = cs.map V.int ∧ cs.length = j) hD0 (by omega) (fun _ _ => ⟨[], rfl, rfl⟩) (fun j ys H' ⟨cs, e, l⟩ => by rw [e, List.length_map]; omega) (fun j ys H' zs us h e => h) (fun j H1 ys Qy Qn hj sm hR hy hno => ?_) fun H0 ys0 s0 hR0 e0 => ?_⟩
    · obtain ⟨cs, rfl, hcl⟩ := hR
      have hpos : 0 ≤ 1 + (0 + (j : Int)) := by omega
      exact iteT (B := Qn H1) ⟨_, rfl, _, rfl, .inl ⟨_, _, rfl, rfl, a, ns, (1 + (0 + (j : Int))).toNat, by rw [Int.toNat_of_nonneg hpos]; rfl, sm.seq hS, fun z => hy H1 _ (Same.refl _) ⟨cs ++ [z], by simp, by simp [hcl]⟩⟩⟩
    obtain ⟨cs, rfl, hcl⟩ := hR0
    rw [Int.toNat_natCast] at hcl
    dsimp only [gName]
    refine st_norm (σ' := [some (.ref a), some (.int ((n : Nat) : Int)), some (.int ((l : Nat) : Int)), some (.ref D0), none, none, none, none, none, none, none, none, none]) rfl ?_
    -- the states
    refine .inl ⟨_, rfl, D0, rfl, ⟨_, SqL.of e0⟩, fun D hD => comp_lRD (K := K) (fun j ys H' => ∃ qs M, ys = qs.map V.ref ∧ Cols H' qs M ∧ M.length = j ∧ (∀ row ∈ M, row.length = n ∧ ∀ c ∈ row, RowOk c) ∧ D ∉ qs) hD (SqL.of e0) (by rw [List.length_map]; omega) ⟨[], [], rfl, .nil, rfl, (fun _ h => by cases h), by simp⟩ (fun j ys H' ⟨qs, M, e, c, l, _⟩ => by rw [e, List.length_map, c.length]; omega) (fun j ys H' zs us ⟨qs, M, e, c, l, r, d⟩ hz => ⟨qs, M, e, c.upd hz d, l, r, d⟩) (fun j x H1 ys Qy Qn ex sm hd hR hy hno => ?_) fun H1 ys s1 hR e1 => ?_⟩
    · obtain ⟨qs, M, rfl, hC, hM, hrow, hDq⟩ := hR
      obtain ⟨z, _, rfl⟩ := List.mem_map.mp (List.mem_of_getElem? ex)
      refine iteT (B := Qn H1) ⟨_, rfl, _, rfl, z, n, rfl, by omega, by omega, fun q xs row H2 s2 hq e2 d2 l2 o2 => hy H2 _ s2 ⟨qs ++ [q], M ++ [row], by simp, (hC.keep s2).snoc e2 d2, by simp [hM], fun r hr => ?_, fun z => ?_⟩⟩
      · rcases List.mem_append.mp hr with h | h
        · exact hrow r h
        · obtain rfl := List.mem_singleton.mp h
          exact ⟨l2, o2⟩
      · rcases List.mem_append.mp z with h | h
        · exact hDq h
        · rw [List.mem_singleton.mp h, hq] at hd
          cases hd
    obtain ⟨qs, A, rfl, hC, hA, hrow, hDq⟩ := hR
    rw [List.length_map, hcl] at hA
    dsimp only [gName]
    refine st_norm (σ' := [some (.ref a), some (.int ((n : Nat) : Int)), some (.int ((l : Nat) : Int)), some (.ref D0), some (.ref D), none, none, none, none, none, none, none, none]) rfl ?_
    have e01 := s1 _ _ e0
    have cell : ∀ j, j < l → ∃ z : Int, (cs.map V.int)[j]? = some (.int z) := fun j hj => ⟨cs[j]'(by omega), by rw [List.getElem?_map, List.getElem?_eq_getElem (by omega)]; rfl⟩
    have stat : ∀ j, j < l → ∀ H', Same H1 H' → ∃ g zs row, (qs.map V.ref)[j]? = some (.ref g) ∧ A[j]? = some row ∧ H' g = some (.lst zs) ∧ DTs H' zs (row.map c2D) ∧ row.length = n ∧ ∀ c ∈ row, RowOk c := fun j hj H' s' => by
      obtain ⟨y, ey⟩ : ∃ y, (qs.map V.ref)[j]? = some y := ⟨_, List.getElem?_eq_getElem (by rw [List.length_map, hC.length]; omega)⟩
      obtain ⟨g, zs, row, rfl, er, hg, hz⟩ := (hC.keep s').get ey
      have := hrow row (List.mem_of_getElem? er)
      exact ⟨g, zs, row, ey, er, hg, hz, this.1, this.2⟩
    -- the homes
    refine ⟨_, rfl, _, rfl, by omega, by omega, fun D2 hD2 => comp_rangeR (fun j ys H' => ∃ hms, DTs H' ys ((hms : List Hm).map hmD) ∧ hms.length = j ∧ ∀ h ∈ hms, ∀ m, h.2 = some m → m < n) hD2 (by omega) (fun _ _ => ⟨[], .nil, rfl, fun _ h => by cases h⟩) (fun j ys H' ⟨hms, e, l, _⟩ => by rw [e.length, List.length_map]; omega) (fun j ys H' zs us ⟨hms, h, l, o⟩ e => ⟨hms, h.kt (kt_upd e), l, o⟩) (fun j H2 ys Qy Qn hj sm hR hy hno => ?_) fun H2 ys2 s2 hR2 e2 => ?_⟩
    · obtain ⟨hms, hd, hl, ho⟩ := hR
      rw [Int.toNat_natCast] at hj
      rw [Int.zero_add]
      obtain ⟨z, ez⟩ := cell j hj
      obtain ⟨g, zs, row, ey, er, hg, hz, hrl, hro⟩ := stat j hj H2 sm
      refine iteT (B := Qn H2) ⟨_, rfl, _, rfl, .inl ⟨D0, _, _, _, rfl, rfl, SqL.of (sm _ _ e01), at_nat (j := j) ez rfl, _, rfl, _, rfl, .inl ⟨D, _, _, _, rfl, rfl, SqL.of (sm _ _ e1), at_nat (j := j) ey rfl, z, g, zs, row, rfl, hg, hz, by omega, by omega, fun x h H3 s3 dx okh => hy H3 _ s3 ⟨hms ++ [h], ?_, by simp [hl], fun h' hm => ?_⟩⟩⟩⟩
      · rw [List.map_append]
        exact (hd.keep s3).snoc dx
      · rcases List.mem_append.mp hm with h'' | h''
        · exact ho h' h''
        · rw [List.mem_singleton.mp h'']
          intro m hm'
          have := okh m hm'
          omega
    obtain ⟨hms, hd2, hl2, ho⟩ := hR2
    rw [Int.toNat_natCast] at hl2
    refine st_norm (σ' := [some (.ref a), some (.int ((n : Nat) : Int)), some (.int ((l : Nat) : Int)), some (.ref D0), some (.ref D), some (.ref D2), none, none, none, none, none, none, none]) rfl ?_
    dsimp only
    -- the letters, and what is due
    refine ⟨Nat.zero_le _, fun lh0 H3 n3 => ?_⟩
    dsimp only [gName]
    refine st_norm (σ' := [some (.ref a), some (.int ((n : Nat) : Int)), some (.int ((l : Nat) : Int)), some (.ref D0), some (.ref D), some (.ref D2), some (.ref lh0), none, none, none, none, none, none]) rfl ?_
    refine ⟨Nat.zero_le _, fun du H4 n4 => ?_⟩
    dsimp only [gName]
    refine st_norm (σ' := [some (.ref a), some (.int ((n : Nat) : Int)), some (.int ((l : Nat) : Int)), some (.ref D0), some (.ref D), some (.ref D2), some (.ref lh0), some (.ref du), none, none, none, none, none]) rfl ?_
    have s24 := n3.2.1.trans n4.2.1
    have du3 : lh0 ≠ du := fun z => by have := n4.1; rw [← z, n3.2.2] at this; cases this
    have due2 : H2 du = none := n3.2.1.free n4.1
    refine ⟨_, rfl, _, rfl, by omega, by omega, for_range (n := _) (fun i σ H' => ∃ lh v8 v9 xs ls us ds, σ = [some (.ref a), some (.int ((n : Nat) : Int)), some (.int ((l : Nat) : Int)), some (.ref D0), some (.ref D), some (.ref D2), some (.ref lh), some (.ref du), v8, v9, none, none, none] ∧ Same H2 H' ∧ H' lh = some (.lst xs) ∧ lh ≠ du ∧ DTs H' xs ((ls : List LT).map ltD) ∧ ls.length ≤ 2 * i ∧ (∀ m ∈ ls, m.2.1 < i) ∧ H' du = some (.lst us) ∧ DTs H' us ((ds : List Wd).map wD) ∧ ds.length = i ∧ ∀ j, j < i → ∀ row h, A[j]? = some row → hms[j]? = some h → ds[j]? = some (lastW (rowsOf row) ls j h)) ⟨lh0, _, _, [], [], [], [], rfl, s24, n4.2.1 _ _ n3.2.2, du3, .nil, Nat.zero_le _, (fun _ h => by cases h), n4.2.2, .nil, rfl, fun j hj => absurd hj (Nat.not_lt_zero _)⟩ ?_ ?_⟩
    · rintro i σ H5 hi ⟨lh, v8, v9, xs, ls, us, ds, rfl, s5, hlh, hne, hls, hll, hlt, hdu, hds, hdl, hall⟩
      rw [Int.toNat_natCast] at hi
      dsimp only [gName]
      rw [Int.zero_add]
      refine st_norm (σ' := [some (.ref a), some (.int ((n : Nat) : Int)), some (.int ((l : Nat) : Int)), some (.ref D0), some (.ref D), some (.ref D2), some (.ref lh), some (.ref du), some (.int ((i : Nat) : Int)), v9, none, none, none]) rfl ?_
      obtain ⟨z, ez⟩ := cell i hi
      have s15 := s2.trans s5
      refine ⟨_, rfl, _, rfl, .inl ⟨D0, _, _, _, rfl, rfl, SqL.of (s15 _ _ e01), at_nat (j := i) ez rfl, _, rfl, _, rfl, z, i, n, rfl, hn0, by omega, fun q6 xs6 ls6 H6 s6 e6 d6 o6 l6 => ?_⟩⟩
      dsimp only [gName]
      refine st_norm (σ' := [some (.ref a), some (.int ((n : Nat) : Int)), some (.int ((l : Nat) : Int)), some (.ref D0), some (.ref D), some (.ref D2), some (.ref lh), some (.ref du), some (.int ((i : Nat) : Int)), some (.ref q6), none, none, none]) rfl ?_
      have xl : xs.length = ls.length := by rw [hls.length, List.length_map]
      have xl6 : xs6.length = ls6.length := by rw [d6.length, List.length_map]
      refine ⟨_, rfl, _, rfl, .inr (.inr (.inl ⟨lh, q6, _, _, rfl, rfl, s6 _ _ hlh, e6, Nat.le_of_lt (small1000 (by omega)), fun lh7 H7 n7 => ?_⟩))⟩
      dsimp only [gName]
      refine st_norm (σ' := [some (.ref a), some (.int ((n : Nat) : Int)), some (.int ((l : Nat) : Int)), some (.ref D0), some (.ref D), some (.ref D2), some (.ref lh7), some (.ref du), some (.int ((i : Nat) : Int)), some (.ref q6), none, none, none]) rfl ?_
      have s57 := s6.trans n7.2.1
      have s17 := s15.trans s57
      obtain ⟨g, zs, row, ey, er, hg, hz, hrl, hro⟩ := stat i hi H7 s17
      obtain ⟨hx, ehx, dhx⟩ := (hd2.keep (s5.trans s57)).at (i := i) (d := hmD (hms[i]'(by omega))) (by rw [List.getElem?_map, List.getElem?_eq_getElem (by omega)]; rfl)
      have ehm : hms[i]? = some (hms[i]'(by omega)) := List.getElem?_eq_getElem (by omega)
      have hwr : ∀ m, (hms[i]'(by omega)).2 = some m → m < row.length := fun m hm => by
        rw [hrl]
        exact ho _ (List.mem_of_getElem? ehm) m hm
      have du7 := s57 _ _ hdu
      refine ⟨_, rfl, .inl ⟨rfl, _, SqL.of du7⟩, _, rfl, _, rfl, .inl ⟨D, _, _, _, rfl, rfl, SqL.of (s17 _ _ e1), at_nat (j := i) ey rfl, _, rfl, _, rfl, .inl ⟨D2, _, _, _, rfl, rfl, SqL.of ((s5.trans s57) _ _ e2), at_nat (j := i) ehx rfl, _, rfl, g, q6, hx, zs, xs6, row, ls6, _, rfl, hg, hz, n7.2.1 _ _ e6, d6.keep n7.2.1, dhx, hwr, fun y H8 s8 dy => ?_⟩⟩⟩
      have du8 := s8 _ _ du7
      have s58 := s57.trans s8
      have ne7 : lh7 ≠ du := fun z => by have := n7.1; rw [z, s6 _ _ hdu] at this; cases this
      refine ⟨du, _, _, rfl, rfl, du8, small1000 (by rw [hds.length, List.length_map]; omega), ⟨lh7, _, _, xs ++ xs6, ls ++ ls6, us ++ [y], ds ++ [dueW row ls6 (hms[i]'(by omega))], rfl, Same.updD due2 (s5.trans s58), ?_, ne7, ?_, by rw [List.length_append]; omega, fun m hm => ?_, upd_same, ?_, by simp [hdl], fun j hj row' h' er' eh' => ?_⟩⟩
      · rw [upd_ne ne7]
        exact s8 _ _ n7.2.2
      · rw [List.map_append]
        exact ((hls.keep s58).append (d6.keep (n7.2.1.trans s8))).kt (kt_upd du8)
      · rcases List.mem_append.mp hm with h | h
        · have := hlt m h
          omega
        · rw [o6 m h]
          omega
      · rw [List.map_append]
        exact ((hds.keep s58).snoc dy).kt (kt_upd du8)
      · by_cases hji : j = i
        · subst hji
          obtain rfl : row = row' := Option.some.inj (er.symm.trans er')
          obtain rfl : hms[j] = h' := Option.some.inj (ehm.symm.trans eh')
          rw [List.getElem?_append_right (by omega), hdl, Nat.sub_self]
          show some _ = some _
          rw [due_last (fun m hm => by have := hlt m hm; omega) o6 hwr]
        · rw [List.getElem?_append_left (by omega), hall j (by omega) row' h' er' eh', last_keep (fun m hm => by rw [o6 m hm]; exact fun z => hji z.symm)]
    rintro σ H5 ⟨lh, v8, v9, xs, ls, us, ds, rfl, s5, hlh, hne, hls, hll, hlt, hdu, hds, hdl, hall⟩
    rw [Int.toNat_natCast] at hll hdl hall
    have s15 := s2.trans s5
    -- the stores
    refine ⟨_, rfl, _, rfl, by omega, by omega, fun D3 hD3 => comp_rangeR (fun j ys H' => ∃ ss, DTs H' ys ((ss : List Sto).map stoD) ∧ ss.map (·.1) = (List.range j).map (storeRows A)) hD3 (by omega) (fun _ _ => ⟨[], .nil, rfl⟩) (fun j ys H' ⟨ss, e, l⟩ => ?_) (fun j ys H' zs us ⟨ss, h, l⟩ e => ⟨ss, h.kt (kt_upd e), l⟩) (fun j H6 ys Qy Qn hj sm hR hy hno => ?_) fun H6 ys6 s6 hR6 e6 => ?_⟩
    · have := congrArg List.length l
      rw [List.length_map, List.length_map, List.length_range] at this
      rw [e.length, List.length_map]
      omega
    · obtain ⟨ss, hd, es⟩ := hR
      rw [Int.toNat_natCast] at hj
      rw [Int.zero_add]
      refine iteT (B := Qn H6) ⟨_, rfl, _, rfl, D, j, n, qs, A, rfl, (s15.trans sm) _ _ e1, hC.keep (s15.trans sm), by omega, (fun row h => (hrow row h).1), by omega, hj, fun x us H7 s7 dx => hy H7 _ s7 ⟨ss ++ [(storeRows A j, us, .tuple [])], ?_, ?_⟩⟩
      · rw [List.map_append]
        exact (hd.keep s7).snoc dx
      · rw [List.map_append, es, List.range_succ, List.map_append]
        rfl
    obtain ⟨ss, hd6, es⟩ := hR6
    rw [Int.toNat_natCast] at es
    refine st_norm (σ' := [some (.ref a), some (.int ((n : Nat) : Int)), some (.int ((l : Nat) : Int)), some (.ref D0), some (.ref D), some (.ref D2), some (.ref lh), some (.ref du), v8, v9, some (.ref D3), none, none]) rfl ?_
    dsimp only
    have s26 := s5.trans s6
    refine ⟨_, rfl, D3, _, rfl, .inl ⟨SqL.of e6, fun g1 H7 n7 => ⟨_, rfl, D2, _, rfl, .inl ⟨SqL.of ((s26.trans n7.2.1) _ _ e2), fun g2 H8 n8 => ⟨_, rfl, lh, _, rfl, .inl ⟨SqL.of ((s6.trans (n7.2.1.trans n8.2.1)) _ _ hlh), fun g3 H9 n9 => ⟨z3, fun hd H10 n10 => ?_⟩⟩⟩⟩⟩⟩⟩
    dsimp only [gName]
    refine st_norm (σ' := [some (.ref a), some (.int ((n : Nat) : Int)), some (.int ((l : Nat) : Int)), some (.ref D0), some (.ref D), some (.ref D2), some (.ref lh), some (.ref du), v8, v9, some (.ref D3), some (.ref hd), none]) rfl ?_
    have s610 := n7.2.1.trans (n8.2.1.trans (n9.2.1.trans n10.2.1))
    have dp : DT H10 (.ref hd) (pic6 ss hms ls) := n10.tup (.cons ((n7.tup hd6).keep (n8.2.1.trans n9.2.1)) (.cons ((n8.tup (hd2.keep (s26.trans n7.2.1))).keep n9.2.1) (.cons (n9.tup (hls.keep (s6.trans (n7.2.1.trans n8.2.1)))) .nil)))
    have du10 := (s6.trans s610) _ _ hdu
    have hds10 := hds.keep (s6.trans s610)
    have ssl : ss.length = n := by
      have := congrArg List.length es
      rwa [List.length_map, List.length_map, List.length_range] at this
    have oks : ∀ s ∈ ss, s.1.length ≤ 8 ∧ ∀ r ∈ s.1, r.1 < hms.length := fun s m => by
      have : s.1 ∈ (List.range n).map (storeRows A) := es ▸ List.mem_map_of_mem m
      obtain ⟨j, _, ej⟩ := List.mem_map.mp this
      rw [← ej]
      refine ⟨Nat.le_trans (store_len A j) (by omega), fun r h => ?_⟩
      have := store_mem h
      omega
    -- each line is asked, up and down
    refine .inl ⟨_, rfl, l, rfl, by omega, fun r1 H11 n11 => ⟨_, rfl, l, rfl, by omega, fun r2 H12 n12 => .inr (.inr (.inl ⟨r1, r2, _, _, rfl, rfl, n12.2.1 _ _ n11.2.2, n12.2.2, ?_, fun r3 H13 n13 => ?_⟩))⟩⟩
    · rw [List.length_map, List.length_map, List.length_range]
      exact Nat.le_of_lt (small1000 (by omega))
    have s1013 := n11.2.1.trans (n12.2.1.trans n13.2.1)
    have inl : ∀ x ∈ (List.range l).map (fun i => V.int ((i : Nat) : Int)) ++ (List.range l).map (fun i => V.int (((l : Nat) : Int) - 1 - ((i : Nat) : Int))), ∃ j : Nat, j < l ∧ x = .int ((j : Nat) : Int) := fun x hx => by
      rcases List.mem_append.mp hx with h | h
      · obtain ⟨j, hj, rfl⟩ := List.mem_map.mp h
        exact ⟨j, List.mem_range.mp hj, rfl⟩
      · obtain ⟨j, hj, rfl⟩ := List.mem_map.mp h
        have := List.mem_range.mp hj
        exact ⟨l - 1 - j, by omega, by congr 1; omega⟩
    have f13 := n13.2.2
    generalize (List.range l).map (fun i => V.int ((i : Nat) : Int)) ++ (List.range l).map (fun i => V.int (((l : Nat) : Int) - 1 - ((i : Nat) : Int))) = rr at inl f13
    refine ⟨r3, rfl, ⟨_, SqL.of f13⟩, for_list (K := K) (a := r3) (xs := rr) (fun i σ H' => ∃ v8 v12, σ = [some (.ref a), some (.int ((n : Nat) : Int)), some (.int ((l : Nat) : Int)), some (.ref D0), some (.ref D), some (.ref D2), some (.ref lh), some (.ref du), v8, v9, some (.ref D3), some (.ref hd), v12] ∧ Same H13 H') ⟨_, _, rfl, Same.refl _⟩ (fun i σ H' _ ⟨_, _, _, s'⟩ => SqL.of (s' _ _ f13)) ?_ ?_⟩
    · rintro i x σ H14 hxx ⟨v8, v12, rfl, s14⟩
      obtain ⟨j, hj, rfl⟩ := inl x (List.mem_of_getElem? hxx)
      dsimp only [gName]
      refine st_norm (σ' := [some (.ref a), some (.int ((n : Nat) : Int)), some (.int ((l : Nat) : Int)), some (.ref D0), some (.ref D), some (.ref D2), some (.ref lh), some (.ref du), some (.int ((j : Nat) : Int)), v9, some (.ref D3), some (.ref hd), v12]) rfl ?_
      have s1014 := s1013.trans s14
      have ehm : hms[j]? = some (hms[j]'(by omega)) := List.getElem?_eq_getElem (by omega)
      obtain ⟨g, zs, row, ey, er, hg, hz, hrl, hro⟩ := stat j hj H6 (s15.trans s6)
      have eb : byL (ss.map (·.1)) j = rowsOf row := by
        rw [es, ← hrl]
        exact byL_all A j er
      refine ⟨_, rfl, _, rfl, .ref hd, ss, hms, ls, j, _, rfl, dp.keep s1014, by omega, by omega, by omega, oks, ehm, fun y H15 s15' dy => ?_⟩
      rw [eb] at dy
      obtain ⟨wn, ewn⟩ := last_some (row := row) (ls := ls) (j := j) (h := hms[j]'(by omega)) hro
      have edj := hall j (by omega) row _ er ehm
      rw [ewn] at dy edj
      obtain ⟨ty, xy, rfl, ety, rty⟩ := dy.tupI
      dsimp only [gName]
      refine st_norm (σ' := [some (.ref a), some (.int ((n : Nat) : Int)), some (.int ((l : Nat) : Int)), some (.ref D0), some (.ref D), some (.ref D2), some (.ref lh), some (.ref du), some (.int ((j : Nat) : Int)), v9, some (.ref D3), some (.ref hd), some (.ref ty)]) rfl ?_
      have s1015 := s1014.trans s15'
      obtain ⟨dv, edv, ddv⟩ := (hds10.keep s1015).at (i := j) (d := wD (some wn)) (by rw [List.getElem?_map, edj]; rfl)
      refine ⟨_, rfl, _, "tuple", "tuple", rfl, by simp, .tup ety, true, rfl, iteF ⟨_, rfl, _, rfl, _, rfl, .inl ⟨du, _, _, _, rfl, rfl, SqL.of (s1015 _ _ du10), at_nat (j := j) edv rfl, rNeA.same (wdShp (some wn)) (by decide) dy.rep ddv.rep ⟨false, rfl, iteF (next_ ⟨_, _, rfl, s14.trans s15'⟩)⟩⟩⟩⟩
    rintro σ H14 ⟨v8, v12, rfl, s14⟩
    exact k _
end
end K66

set_option Elab.async false
set_option linter.all false
set_option maxRecDepth 100000
set_option maxHeartbeats 1000000
namespace K66
open PySem L2
theorem fin {l : PySem.W.OpenLaw} {w : World} {K : PySem.W.Frag} {mg : Str → Option Value} {h : Heap} {fa aC cN : Addr} (KX : K.In h) (G : h.Ns mainGlobals mg) (hfa : mg "law" = some (.ref fa))
    (tstates_by_line : TopFn K "states_by_line" sPStates)
    (tlast_words : TopFn K "last_words" sPLast)
    (tbrings_words : TopFn K "brings_words" sPBrings)
    (t_law_cell_at : TopFn K "_law_cell_at" sCellAt)
    (t_law_words : TopFn K "_law_words" sWords)
    (t_law_states : TopFn K "_law_states" sStates)
    (t_law_leaving : TopFn K "_law_leaving" sLeaving)
    (t_law_home : TopFn K "_law_home" sHome)
    (t_law_letters : TopFn K "_law_letters" sLetters)
    (t_law_due : TopFn K "_law_due" sDue)
    (t_law_store : TopFn K "_law_store" sStore)
    (tlaw : TopFn K "law" sLaw)
    (g_CALLED_IN : PySem.W.nsIn K mainGlobals "CALLED_IN" = some (some (.ref aC)))
    (g_NoPlace : PySem.W.nsIn K mainGlobals "NoPlace" = some (some (.ref cN)))
    (qC : ∀ H, SqT K H aC ciV)
    (x_cN : ExcK K cN)
    (z_isinstance : PySem.W.nsIn K mainGlobals "isinstance" = some none)
    (z_tuple : PySem.W.nsIn K mainGlobals "tuple" = some none)
    (z_len : PySem.W.nsIn K mainGlobals "len" = some none)
    (z_list : PySem.W.nsIn K mainGlobals "list" = some none)
    (z_range : PySem.W.nsIn K mainGlobals "range" = some none)
    (z_enumerate : PySem.W.nsIn K mainGlobals "enumerate" = some none)
    (z_reversed : PySem.W.nsIn K mainGlobals "reversed" = some none) :
    ∃ fd : FuncData, (∀ (s : Shared) (v : Value), BindsTo s fd ⟨[v], []⟩ [("_law_script", v)]) ∧ ∀ base : Heap, K.In base → base.Ns mainGlobals mg → FnOk l.prog w K mg base CX0 3 fa fd ["_law_script"] (spLaw K) := by
  have Z : Bl mg := ⟨PySem.W.mg_none_of KX G z_isinstance, PySem.W.mg_none_of KX G z_tuple, PySem.W.mg_none_of KX G z_len, PySem.W.mg_none_of KX G z_list, PySem.W.mg_none_of KX G z_range, PySem.W.mg_none_of KX G z_enumerate, PySem.W.mg_none_of KX G z_reversed⟩
  have T : Tx K mg aC cN := ⟨PySem.W.mg_of KX G g_CALLED_IN, qC, PySem.W.mg_of KX G g_NoPlace, x_cN⟩
  refine tlaw.law KX G hfa (fun _ _ _ _ _ _ _ => rfl) fun base _ _ f fd F => ?_
  have Cstates_by_line : CalD l.prog w K mg base (CXE l.prog w) 1 "states_by_line" ["picture"] [] spStates := tstates_by_line.calD KX G (fun f fd F => (ok_states F Z).toE) fun _ _ _ _ _ _ us hl => match us, hl with | [_], _ => rfl
  have Cbrings_words : CalD l.prog w K mg base (CXE l.prog w) 1 "brings_words" ["letter"] [] spBrings := tbrings_words.calD KX G (fun f fd F => (ok_brings F T).toE) fun _ _ _ _ _ _ us hl => match us, hl with | [_], _ => rfl
  have Clast_words : CalD l.prog w K mg base (CXE l.prog w) 2 "last_words" ["picture", "line"] [] spLast := tlast_words.calD KX G (fun f fd F => (ok_last F Z T Cstates_by_line Cbrings_words)) fun _ _ _ _ _ _ us hl => match us, hl with | [_, _], _ => rfl
  have C_law_cell_at : CalD l.prog w K mg base (CXE l.prog w) 1 "_law_cell_at" ["_law_script", "_law_k"] [] (spCellAt K) := t_law_cell_at.calD KX G (fun f fd F => (ok_cellat F Z).toE) fun _ _ _ _ _ _ us hl => match us, hl with | [_, _], _ => rfl
  have C_law_words : CalD l.prog w K mg base (CXE l.prog w) 1 "_law_words" ["_law_cell", "_law_k"] [] spWords := t_law_words.calD KX G (fun f fd F => (ok_words F).toE) fun _ _ _ _ _ _ us hl => match us, hl with | [_, _], _ => rfl
  have C_law_states : CalD l.prog w K mg base (CXE l.prog w) 2 "_law_states" ["_law_cell", "_law_nears"] [] spStatesL := t_law_states.calD KX G (fun f fd F => (ok_statesL F Z C_law_words).toE) fun _ _ _ _ _ _ us hl => match us, hl with | [_, _], _ => rfl
  have C_law_leaving : CalD l.prog w K mg base (CXE l.prog w) 1 "_law_leaving" ["_law_states_here"] [] spLeaving := t_law_leaving.calD KX G (fun f fd F => (ok_leaving F Z).toE) fun _ _ _ _ _ _ us hl => match us, hl with | [_], _ => rfl
  have C_law_home : CalD l.prog w K mg base (CXE l.prog w) 2 "_law_home" ["_law_cell", "_law_states_here"] [] spHome := t_law_home.calD KX G (fun f fd F => (ok_home F Z C_law_words C_law_leaving).toE) fun _ _ _ _ _ _ us hl => match us, hl with | [_, _], _ => rfl
  have C_law_letters : CalD l.prog w K mg base (CXE l.prog w) 2 "_law_letters" ["_law_cell", "_law_line", "_law_nears"] [] spLetters := t_law_letters.calD KX G (fun f fd F => (ok_letters F C_law_words).toE) fun _ _ _ _ _ _ us hl => match us, hl with | [_, _, _], _ => rfl
  have C_law_due : CalD l.prog w K mg base (CXE l.prog w) 1 "_law_due" ["_law_states_here", "_law_home_here", "_law_letters_here"] [] spDue := t_law_due.calD KX G (fun f fd F => (ok_due F).toE) fun _ _ _ _ _ _ us hl => match us, hl with | [_, _, _], _ => rfl
  have C_law_store : CalD l.prog w K mg base (CXE l.prog w) 2 "_law_store" ["_law_all_states", "_law_near"] [] spStore := t_law_store.calD KX G (fun f fd F => (ok_store F Z).toE) fun _ _ _ _ _ _ us hl => match us, hl with | [_, _], _ => rfl
  exact ok_law F Z C_law_cell_at C_law_states C_law_home C_law_letters C_law_due C_law_store Clast_words
end K66
open PySem PySem.W PyProof.Rows
local macro_rules | `(tactic| walk_at "top fn") => `(tactic| (refine' L2.topFn_mk ?ta ?tl ?tc ?tk; (case ta => k_is); (case tl => k_is); (case tc => k_is); (case tk => k_is)))
local macro_rules | `(tactic| walk_at "top cls") => `(tactic| (refine' L2.topCls_mk ?ca ?cb ?cc ?cd ?ce ?cf ?cg ?ch ?ci; (case ca => k_is); (case cb => k_is); (case cc => k_is); (case cd => k_is); (case ce => k_is); (case cf => k_is); (case cg => k_is); (case ch => k_is); (case ci => k_is)))
local macro_rules | `(tactic| walk_at "mth") => `(tactic| (refine' L2.mthF_mk ?ma ?mb ?mc ?md ?me; (case ma => k_is); (case mb => k_is); (case mc => k_is); (case md => k_is); (case me => k_is)))
local macro_rules | `(tactic| walk_at "mtha") => `(tactic| (refine' L2.mthA_mk ?ma ?mb ?mc ?md ?me ?mf; (case ma => k_is); (case mb => k_is); (case mc => k_is); (case md => k_is); (case me => k_is); (case mf => kernel_rfl)))
local macro_rules | `(tactic| walk_at "cmth") => `(tactic| (refine' L2.cmthF_mk ?mn ?ma ?mg ?mr ?mf ?mc ?md ?me; (case mn => k_is); (case ma => k_is); (case mg => k_is); (case mr => k_is); (case mf => kernel_rfl); (case mc => k_is); (case md => k_is); (case me => k_is)))
local macro_rules | `(tactic| walk_at "init") => `(tactic| (refine' L2.initF_mk ?ia ?ib ?ic ?id ?ie ?if' ?ig; (case ia => k_is); (case ib => k_is); (case ic => k_is); (case id => k_is); (case ie => k_is); (case if' => k_is); (case ig => k_is)))
local macro_rules | `(tactic| walk_at "exck") => `(tactic| (refine' L2.excK_mk ?eW ?nW ?bW (L2.TailK.own ?tA ?tB ?tC .base); (case eW => k_is); (case nW => k_is); (case bW => kernel_rfl); (case tA => k_is); (case tB => k_is); (case tC => kernel_rfl)))
local macro_rules | `(tactic| walk_at "exct") => `(tactic| (refine' L2.ExcT.mk ?xa ?xb ?xc ?xd ?xe ?xf ?xg ?xh; (case xa => k_is); (case xb => k_is); (case xc => k_is); (case xd => k_is); (case xe => k_is); (case xf => k_is); (case xg => k_is); (case xh => k_is)))
local macro_rules | `(tactic| walk_at "forms") => `(tactic| (refine' L2.formsK_mk ?fl (L2.tupK2_mk ?f0) (L2.tupK2_mk ?f1) (L2.tupK2_mk ?f2) (L2.tupK2_mk ?f3); (case fl => k_is); (case f0 => k_is); (case f1 => k_is); (case f2 => k_is); (case f3 => k_is)))
local macro_rules | `(tactic| walk_at "mkn") => `(tactic| (refine' L2.MkN.mk ?na ?nb ?nc; (case na => k_is); (case nb => k_is); (case nc => k_is)))
local macro_rules | `(tactic| walk_at "sq2") => `(tactic| (refine' L2.sq_mk ?la ?ls ?lv; (case la => k_is); (case ls => decide); (case lv => exact .cons ⟨_, rfl⟩ (.cons ⟨_, rfl⟩ .nil))))
set_option maxRecDepth 100000 in
set_option maxHeartbeats 0 in
theorem PySem.Challenge.cw_linewarden_k66_last_words_made_up_holds : PySem.Challenge.rw_linewarden_k66_last_words_made_up.Holds := by
  w_on; o_law; k_head; (case hw => w_witness2)
  k_fill
  refine L2.walk63 (l := PySem.Challenge.rw_linewarden_k66_last_words_made_up) (CX := fun _ => L2.CX0) (k := 3) ⟨rfl, by decide, by decide⟩ rfl rfl (fun w h Y => PySem.W.kIn_of Y) ?F (fun _ _ _ _ _ z => z)
  case F =>
    intro w mg fa h KX G hmg
    refine' K66.fin KX G hmg ?htstates_by_line ?htlast_words ?htbrings_words ?ht_law_cell_at ?ht_law_words ?ht_law_states ?ht_law_leaving ?ht_law_home ?ht_law_letters ?ht_law_due ?ht_law_store ?htlaw ?hg_CALLED_IN ?hg_NoPlace ?hqC ?hx_cN ?hz_isinstance ?hz_tuple ?hz_len ?hz_list ?hz_range ?hz_enumerate ?hz_reversed
    (case htstates_by_line => walk_at "top fn")
    (case htlast_words => walk_at "top fn")
    (case htbrings_words => walk_at "top fn")
    (case ht_law_cell_at => walk_at "top fn")
    (case ht_law_words => walk_at "top fn")
    (case ht_law_states => walk_at "top fn")
    (case ht_law_leaving => walk_at "top fn")
    (case ht_law_home => walk_at "top fn")
    (case ht_law_letters => walk_at "top fn")
    (case ht_law_due => walk_at "top fn")
    (case ht_law_store => walk_at "top fn")
    (case htlaw => walk_at "top fn")
    (case hg_CALLED_IN => k_is)
    (case hg_NoPlace => k_is)
    (case hqC => walk_at "sq2")
    (case hx_cN => walk_at "exck")
    (case hz_isinstance => k_is)
    (case hz_tuple => k_is)
    (case hz_len => k_is)
    (case hz_list => k_is)
    (case hz_range => k_is)
    (case hz_enumerate => k_is)
    (case hz_reversed => k_is)
