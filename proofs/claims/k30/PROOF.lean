import PyProof.Rows.All
import Wide.All
import OpenK.AllK
import Wide.FinOn
import Lean
import PyProof.EqAt
import PyProof.EqKinds
import PyProof.TupleCall
import PySem.Challenge.RW_vellum_k30_an_apparatus_written

set_option Elab.async false
set_option linter.all false
set_option maxRecDepth 100000
/-! THE HAND LAYER, for ints, bools, texts, own classes, LISTS and tuples (index, slices, in, append, pop ..), calls, loops. Paste it whole ahead of your own text; what your proof does not reach may be deleted. -/
namespace L2
open PySem PySem.Spec PyProof.Rows

/-- a key: an int or a str -/
abbrev Key := Sum Int Str
def keyIs : Key → Value → Bool
  | .inl k, v => Value.isInt k v
  | .inr x, v => Value.isStrOf x v
def keyH (w : World) : Key → Int
  | .inl k => hashInt k
  | .inr x => hashStr w x
theorem keyIs_shape : ∀ {k : Key} {v : Value}, keyIs k v = true → (∃ i t, k = Sum.inl i ∧ v = Value.int i t) ∨ (∃ x t, k = Sum.inr x ∧ v = Value.str x t)
  | .inl i, v, h => by
    obtain ⟨t, e⟩ := Value.isInt_shape (k := i) (v := v) h
    exact .inl ⟨i, t, rfl, e⟩
  | .inr x, v, h => by
    obtain ⟨t, e⟩ := Value.isStrOf_shape (x := x) (v := v) h
    exact .inr ⟨x, t, rfl, e⟩
theorem keyIs_int (i : Int) (t : Tok) : keyIs (.inl i) (.int i t) = true := by simp [keyIs, Value.isInt]
theorem keyIs_str (x : Str) (t : Tok) : keyIs (.inr x) (.str x t) = true := by simp [keyIs, Value.isStrOf]
theorem key_ll (a b : Int) : decide ((Sum.inl a : Key) = Sum.inl b) = (a == b) := by
  by_cases e : a = b
  · subst e; simp
  · have h : ¬ (Sum.inl a : Key) = Sum.inl b := fun q => e (Sum.inl.inj q)
    rw [decide_eq_false h]
    exact (beq_eq_false_iff_ne.mpr e).symm
theorem key_rr (a b : Str) : decide ((Sum.inr a : Key) = Sum.inr b) = decide (a = b) := by
  by_cases e : a = b
  · subst e; simp
  · have h : ¬ (Sum.inr a : Key) = Sum.inr b := fun q => e (Sum.inr.inj q)
    rw [decide_eq_false h, decide_eq_false e]
theorem key_lr (a : Int) (b : Str) : decide ((Sum.inl a : Key) = Sum.inr b) = false := decide_eq_false (fun q => nomatch q)
theorem key_rl (a : Str) (b : Int) : decide ((Sum.inr a : Key) = Sum.inl b) = false := decide_eq_false (fun q => nomatch q)

def mixKind (prog : Program) (w : World) : PySem.KeyKind prog w Key where
  is := keyIs
  hash := keyH w
  inj := fun v a b ha hb => by
    rcases keyIs_shape ha with ⟨i, t, rfl, rfl⟩ | ⟨x, t, rfl, rfl⟩
    · rcases keyIs_shape hb with ⟨j, u, rfl, e⟩ | ⟨y, u, rfl, e⟩
      · injection e with e1 _; rw [e1]
      · exact nomatch e
    · rcases keyIs_shape hb with ⟨j, u, rfl, e⟩ | ⟨y, u, rfl, e⟩
      · exact nomatch e
      · injection e with e1 _; rw [e1]
  byValue := fun k v h => by
    rcases keyIs_shape h with ⟨i, t, rfl, rfl⟩ | ⟨x, t, rfl, rfl⟩ <;> rfl
  pyHash := fun hv h => by
    rcases keyIs_shape hv with ⟨i, t, rfl, rfl⟩ | ⟨x, t, rfl, rfl⟩
    · exact wpAny_pyHash_int h
    · exact wpAny_pyHash_str h
  eqBool := fun hu hv h => by
    rcases keyIs_shape hu with ⟨i, t, rfl, rfl⟩ | ⟨x, t, rfl, rfl⟩
    · rcases keyIs_shape hv with ⟨j, u, rfl, rfl⟩ | ⟨y, u, rfl, rfl⟩
      · rw [key_ll] at h; exact wpAny_eqBool_int h
      · rw [key_lr] at h; exact SeqAt.EqAt.int_str i t y u _ _ _ _ h
    · rcases keyIs_shape hv with ⟨j, u, rfl, rfl⟩ | ⟨y, u, rfl, rfl⟩
      · rw [key_rl] at h; exact SeqAt.EqAt.str_int x t j u _ _ _ _ h
      · rw [key_rr] at h; exact wpAny_eqBool_str h
  «strs» := fun k x t v h => by
    rcases keyIs_shape h with ⟨i, u, rfl, e⟩ | ⟨y, u, rfl, e⟩
    · exact nomatch e
    · injection e with e1 _
      subst e1
      cases v <;> rfl

theorem mixKind_is (prog : Program) (w : World) (k : Key) (v : Value) : (mixKind prog w).is k v = keyIs k v := rfl
theorem mixKind_int (prog : Program) (w : World) (i : Int) (t : Tok) : (mixKind prog w).is (.inl i) (.int i t) = true := keyIs_int i t
theorem mixKind_str (prog : Program) (w : World) (x : Str) (t : Tok) : (mixKind prog w).is (.inr x) (.str x t) = true := keyIs_str x t
end L2

namespace L2
open PySem PySem.Spec PyProof.Rows

/-- a value, without the heap -/
inductive V where
  | non | bl (b : Bool) | int (i : Int) | str (x : Str) | byt (b : Array UInt8) | flt (b : UInt64) | ref (a : Addr) | ty (n : String)
  deriving DecidableEq

def RelV : V → Value → Prop
  | .non, u => u = Value.none
  | .bl b, u => u = Value.bool b
  | .int i, u => ∃ t, u = Value.int i t
  | .str x, u => ∃ t, u = Value.str x t
  | .byt b, u => ∃ t, u = Value.bytes b t
  | .flt b, u => ∃ t, u = Value.float b t
  | .ref a, u => u = Value.ref a
  | .ty n, u => u = Value.type n

abbrev Vals : List V → List Value → Prop := Paired RelV
theorem Vals.length {xs : List V} {us : List Value} (r : Vals xs us) : xs.length = us.length := Paired.length r
theorem Vals.get : ∀ {xs : List V} {us : List Value} {i : Nat} {x : V}, Vals xs us → xs[i]? = some x → ∃ u, us[i]? = some u ∧ RelV x u
  | _, _, _, _, .nil, e => by simp at e
  | _, _, 0, _, .cons r _, e => by simp at e; subst e; exact ⟨_, rfl, r⟩
  | _, _, i + 1, x, .cons _ t, e => by
    obtain ⟨u, h1, h2⟩ := Vals.get (i := i) (x := x) t (by simpa using e)
    exact ⟨u, by simpa using h1, h2⟩
theorem Vals.set {x : V} {u : Value} (r : RelV x u) : ∀ {xs : List V} {us : List Value} (i : Nat), Vals xs us → Vals (xs.set i x) (us.set i u)
  | _, _, _, .nil => .nil
  | _, _, 0, .cons _ t => .cons r t
  | _, _, i + 1, .cons q t => .cons q (Vals.set r i t)
theorem Vals.append : ∀ {xs ys : List V} {us ws : List Value}, Vals xs us → Vals ys ws → Vals (xs ++ ys) (us ++ ws)
  | _, _, _, _, .nil, s => s
  | _, _, _, _, .cons r t, s => .cons r (Vals.append t s)
theorem Vals.take : ∀ {xs : List V} {us : List Value} (n : Nat), Vals xs us → Vals (xs.take n) (us.take n)
  | _, _, 0, _ => .nil
  | _, _, _ + 1, .nil => .nil
  | _, _, n + 1, .cons r t => .cons r (Vals.take n t)
theorem Vals.drop : ∀ {xs : List V} {us : List Value} (n : Nat), Vals xs us → Vals (xs.drop n) (us.drop n)
  | _, _, 0, r => r
  | _, _, _ + 1, .nil => .nil
  | _, _, n + 1, .cons _ t => Vals.drop n t
theorem Vals.none_of : ∀ {xs : List V} {us : List Value} {i : Nat}, Vals xs us → xs[i]? = none → us[i]? = none := fun {xs us i} r e => by
  have h1 := r.length
  have h2 : xs.length ≤ i := List.getElem?_eq_none_iff.mp e
  exact List.getElem?_eq_none_iff.mpr (by omega)

def RelO : Option V → Option Value → Prop
  | some v, some u => RelV v u
  | none, none => True
  | _, _ => False
def KV {κ : Type} : List (κ × V) → List (κ × Value) → Prop := Paired fun (p : κ × V) (q : κ × Value) => p.1 = q.1 ∧ RelV p.2 q.2

/-- a key of a dict (00_mix): an int or a text -/
def kV : Key → V
  | .inl i => .int i
  | .inr x => .str x

/-- what stands at a tracked address -/
inductive HO where
  /-- a list -/
  | lst (xs : List V)
  /-- a tuple (never changes) -/
  | tup (xs : List V)
  /-- a dict whose keys are ints and texts; one whose keys are tuples of ints and texts (the empty one is both) -/
  | dK (kvs : List (Key × V)) | dT (kvs : List (List Key × V))
  /-- a set of ints: its members, its size -/
  | set (S : Int → Bool) (n : Nat)
  /-- an instance of the class at C, its dict at dx, its attributes -/
  | ins (C dx : Addr) (fs : List (Str × V))
  /-- the dict of the instance at x -/
  | own (x : Addr)
  /-- the dict of an exception -/
  | xd (fs : List (Str × V))
  /-- a bound method, f of x -/
  | met (f x : Addr)
  /-- a range object lo, lo + 1, .. below hi -/
  | rng (lo hi : Int)
  /-- a thing that is known to the object (the script; a dict while a loop walks it): read, never written while it is so -/
  | frz (o : Obj) (u : HO)
  /-- a code object's table -/
  | tbl (ps : Array Value)
  /-- any other thing, by what is true of its one object (a def of one's own: SetO a S n := HO.ext fun h => ..) -/
  | ext (φ : Heap → Prop)

abbrev Hp := Addr → Option HO
def upd (H : Hp) (a : Addr) (o : HO) : Hp := fun b => if b = a then some o else H b
theorem upd_same {H : Hp} {a : Addr} {o : HO} : upd H a o a = some o := by unfold upd; rw [if_pos rfl]
theorem upd_ne {H : Hp} {a b : Addr} {o : HO} (h : b ≠ a) : upd H a o b = H b := by unfold upd; rw [if_neg h]
theorem upd_upd {H : Hp} {a : Addr} {o u : HO} : upd (upd H a o) a u = upd H a u := by
  funext b; unfold upd; split <;> rfl
/-- two objects of different content stand apart -/
theorem ne_of {H : Hp} {a b : Addr} {o u : HO} (h : H a = some o) (h' : H b = some u) (d : o ≠ u) : a ≠ b := by
  intro e; subst e; rw [h] at h'; exact d (Option.some.inj h')
theorem ne_of_none {H : Hp} {a b : Addr} {o : HO} (h : H a = some o) (h' : H b = none) : a ≠ b := by
  intro e; subst e; rw [h] at h'; cases h'

section
variable (P : Program) (w : World)
def ObjOk (H : Hp) (h : Heap) (a : Addr) : HO → Prop
  | .lst xs => xs.length ≤ sizeLine ∧ ∃ (its : List Value) (n : Nat), Vals xs its ∧ h.get? a = some { cls := .type "list", data := .seq its.toArray n }
  | .tup xs => xs.length ≤ sizeLine ∧ ∃ its : List Value, Vals xs its ∧ IsTup h a its.toArray
  | .dK kvs => kvs.length ≤ sizeLine ∧ (a == sysModules) = false ∧ ∃ vs, KV kvs vs ∧ h.DictOf (mixKind P w) a vs
  | .dT _ => False
  | .set S n => h.SetOf (intKind P w) a S n
  | .ins C dx fs => H dx = some (.own a) ∧ fs.length ≤ 1000 ∧ dx ≠ a ∧ h.get? a = some (PySem.W.instObj C dx) ∧
      ∃ mA, h.Ns1 dx mA ∧ (∀ f, RelO (fs.lookup f) (mA f)) ∧ PySem.Within mA (fs.map (·.1))
  | .own _ => ∃ o, h.get? a = some o
  | .xd fs => ∃ mA, h.Ns1 a mA ∧ ∀ f, RelO (fs.lookup f) (mA f)
  | .rng lo hi => ∃ t u v, h.get? a = some { cls := .type "range", data := .fields #[.int lo t, .int hi u, .int 1 v] }
  | .frz o u => h.get? a = some o ∧ ObjOk H h a u
  | .tbl ps => h.get? a = some { cls := .none, data := .fields ps }
  | .met f x => h.get? a = some (PySem.W.methodObj (.ref f) (.ref x))
  | .ext φ => φ h ∧ (∃ o, h.get? a = some o) ∧ ∀ h1 h2 : Heap, φ h1 → (∀ o, h1.get? a = some o → h2.get? a = some o) → φ h2
/-- the abstract heap is held -/
def HOk (H : Hp) (h : Heap) : Prop := ∀ a o, H a = some o → ObjOk P w H h a o
end

section
variable {P : Program} {w : World} {H H' : Hp} {h h' : Heap} {a : Addr} {o : HO}
theorem ObjOk.lt (x : ObjOk P w H h a o) : a < h.objs.size := by
  cases o with
  | lst xs => obtain ⟨_, _, _, _, e⟩ := x; exact Heap.lt_size e
  | tup xs => obtain ⟨_, _, _, p⟩ := x; exact p.lt
  | dK kvs => obtain ⟨_, _, _, _, o, _, _, e, _⟩ := x; exact Heap.lt_size e
  | dT kvs => exact False.elim x
  | set S n => obtain ⟨o, _, _, _, e, _⟩ := x; exact Heap.lt_size e
  | ins C dx fs => obtain ⟨_, _, _, e, _⟩ := x; exact Heap.lt_size e
  | own y => obtain ⟨_, e⟩ := x; exact Heap.lt_size e
  | xd fs => obtain ⟨_, ⟨_, _, _, e, _⟩, _⟩ := x; exact Heap.lt_size e
  | rng lo hi => obtain ⟨_, _, _, e⟩ := x; exact Heap.lt_size e
  | frz ob u => obtain ⟨e, _⟩ := x; exact Heap.lt_size e
  | tbl ps => exact Heap.lt_size (show h.get? a = some _ from x)
  | met f y => exact Heap.lt_size (show h.get? a = some _ from x)
  | ext φ => obtain ⟨_, ⟨_, e⟩, _⟩ := x; exact Heap.lt_size e
theorem Paired.mapP {α β : Type} {F G : α → β → Prop} : ∀ {l₁ : List α} {l₂ : List β}, Paired F l₁ l₂ → (∀ a b, F a b → G a b) → Paired G l₁ l₂
  | _, _, .nil, _ => .nil
  | _, _, .cons r t, f => .cons (f _ _ r) (Paired.mapP t f)
theorem Paired.imp' {α β : Type} {F G : α → β → Prop} (f : ∀ a b, F a b → G a b) {l₁ : List α} {l₂ : List β} (r : Paired F l₁ l₂) : Paired G l₁ l₂ := Paired.mapP r f
/-- what an object's description leans on: its own object, its own dict, the tuples -/
theorem ObjOk.stay (x : ObjOk P w H h a o) (k : ∀ b u, (b = a ∨ H b = some (.own a)) → h.get? b = some u → h'.get? b = some u)
    (ho : ∀ b, H b = some (.own a) → H' b = some (.own a)) (ht : ∀ b xs, H b = some (.tup xs) → H' b = some (.tup xs)) : ObjOk P w H' h' a o := by
  induction o with
  | lst xs => obtain ⟨z, its, n, r, e⟩ := x; exact ⟨z, its, n, r, k _ _ (.inl rfl) e⟩
  | tup xs => obtain ⟨z, its, r, ob, e, c⟩ := x; exact ⟨z, its, r, ob, k _ _ (.inl rfl) e, c⟩
  | dK kvs => obtain ⟨z, y, vs, r, ob, es, ep, e, c⟩ := x; exact ⟨z, y, vs, r, ob, es, ep, k _ _ (.inl rfl) e, c⟩
  | dT kvs => exact False.elim x
  | set S n => obtain ⟨ob, es, ep, t, e, c⟩ := x; exact ⟨ob, es, ep, t, k _ _ (.inl rfl) e, c⟩
  | ins C dx fs =>
    obtain ⟨d, z, ne, e, mA, ⟨od, es, ep, e2, c⟩, r⟩ := x
    exact ⟨ho _ d, z, ne, k _ _ (.inl rfl) e, mA, ⟨od, es, ep, k _ _ (.inr d) e2, c⟩, r⟩
  | own y => obtain ⟨ob, e⟩ := x; exact ⟨ob, k _ _ (.inl rfl) e⟩
  | xd fs => obtain ⟨mA, ⟨od, es, ep, e, c⟩, r⟩ := x; exact ⟨mA, ⟨od, es, ep, k _ _ (.inl rfl) e, c⟩, r⟩
  | rng lo hi => obtain ⟨t, u, v, e⟩ := x; exact ⟨t, u, v, k _ _ (.inl rfl) e⟩
  | frz ob u ih => obtain ⟨e, q⟩ := x; exact ⟨k _ _ (.inl rfl) e, ih q⟩
  | tbl ps =>
    have e : h.get? a = some { cls := .none, data := .fields ps } := x
    show h'.get? a = some { cls := .none, data := .fields ps }
    exact k a _ (.inl rfl) e
  | met f y =>
    have e : h.get? a = some (PySem.W.methodObj (.ref f) (.ref y)) := x
    show h'.get? a = some (PySem.W.methodObj (.ref f) (.ref y))
    exact k a _ (.inl rfl) e
  | ext φ => obtain ⟨p, ⟨o, e⟩, st⟩ := x; exact ⟨st _ _ p fun o q => k _ _ (.inl rfl) q, ⟨o, k _ _ (.inl rfl) e⟩, st⟩
theorem HOk.lt (x : HOk P w H h) (e : H a = some o) : a < h.objs.size := (x a o e).lt
theorem HOk.fresh (x : HOk P w H h) (e : h.objs.size ≤ a) : H a = none := by
  cases q : H a with
  | none => rfl
  | some u => exact absurd (Nat.lt_of_lt_of_le (x.lt q) e) (Nat.lt_irrefl _)
/-- every object of the heap is kept -/
theorem HOk.kept (x : HOk P w H h) (k : ∀ b u, h.get? b = some u → h'.get? b = some u) : HOk P w H h' := fun a o e =>
  (x a o e).stay (fun b u _ q => k b u q) (fun _ q => q) fun _ _ q => q
/-- a new object is laid and tracked -/
theorem HOk.laid (x : HOk P w H h) (k : ∀ b u, h.get? b = some u → h'.get? b = some u) (hp : h.objs.size ≤ a) (new : ObjOk P w (upd H a o) h' a o) : HOk P w (upd H a o) h' := fun b u e => by
  have hn := x.fresh hp
  by_cases hb : b = a
  · subst hb; rw [upd_same] at e; cases e; exact new
  · rw [upd_ne hb] at e
    exact (x b u e).stay (fun c v _ q => k c v q) (fun c q => by rw [upd_ne (ne_of_none q hn)]; exact q) fun c xs q => by rw [upd_ne (ne_of_none q hn)]; exact q
end

/-- what may be read as u: it is u, or a known u -/
def Rd (H : Hp) (a : Addr) (u : HO) : Prop := H a = some u ∨ ∃ o, H a = some (.frz o u)
theorem Rd.of {H : Hp} {a : Addr} {u : HO} (h : H a = some u) : Rd H a u := .inl h
theorem Rd.ok {P : Program} {w : World} {H : Hp} {h : Heap} {a : Addr} {u : HO} (r : Rd H a u) (x : HOk P w H h) : ObjOk P w H h a u := by
  rcases r with r | ⟨o, r⟩
  · exact x a u r
  · obtain ⟨_, q⟩ := x a _ r
    exact q
/-- what may be written -/
def Mut : Option HO → Prop
  | some (.lst _) => True
  | some (.dK _) => True
  | some (.dT _) => True
  | some (.set _ _) => True
  | some (.ins _ _ _) => True
  | some (.ext _) => True
  | _ => False
section
variable {P : Program} {w : World} {H : Hp} {h h' : Heap} {x e : Addr} {o' : HO}
/-- the object at e is changed: x itself, or the dict of the instance x -/
theorem HOk.write (ok : HOk P w H h) (mu : Mut (H x)) (he : e = x ∨ H e = some (.own x)) (k : ∀ b u, b ≠ e → h.get? b = some u → h'.get? b = some u) (heo : ∃ u, h'.get? e = some u)
    (new : ObjOk P w (upd H x o') h' x o') : HOk P w (upd H x o') h' := fun b u q => by
  have nown : ∀ c y, H c = some (.own y) → c ≠ x := fun c y r z => by subst z; rw [r] at mu; exact mu
  have ntup : ∀ c xs, H c = some (.tup xs) → c ≠ x := fun c xs r z => by subst z; rw [r] at mu; exact mu
  by_cases hb : b = x
  · subst hb; rw [upd_same] at q; cases q; exact new
  · rw [upd_ne hb] at q
    by_cases hbe : b = e
    · have q' : H b = some (.own x) := by
        rcases he with z | z
        · exact absurd (hbe.trans z) hb
        · rw [hbe]; exact z
      rw [q] at q'; cases q'
      obtain ⟨v, hv⟩ := heo
      exact ⟨v, by rw [hbe]; exact hv⟩
    · refine (ok b u q).stay (fun c v hc r => k c v ?_ r) (fun c r => by rw [upd_ne (nown c b r)]; exact r) fun c xs r => by rw [upd_ne (ntup c xs r)]; exact r
      rcases hc with rfl | hc
      · exact hbe
      · rintro rfl
        rcases he with z | z
        · exact nown c b hc z
        · rw [hc] at z; cases z; exact hb rfl
end

/-! ### kept unless tracked; of the frames at fs (the callers') the slots may change (an exception that passes writes there); of the records at ex (iterators) nothing is said -/
structure Un (fs ex : List Addr) (H H' : Hp) (h h' : Heap) : Prop where
  keep : ∀ b o, h.get? b = some o → H b = none → b ∉ fs → b ∉ ex → h'.get? b = some o
  slot : ∀ b o, h.get? b = some o → H b = none → b ∈ fs → b ∉ ex → ∃ sl, h'.get? b = some { o with slots := sl }
  free : ∀ b o, h.get? b = some o → H b = none → b ∉ ex → H' b = none
  there : ∀ b o, h.get? b = some o → b ∉ ex → ∃ o', h'.get? b = some o'
  tups : ∀ b xs, H b = some (.tup xs) → H' b = some (.tup xs)
  frzs : ∀ b o u, H b = some (.frz o u) → H' b = some (.frz o u)
  tbls : ∀ b ps, H b = some (.tbl ps) → ∃ more, H' b = some (.tbl (ps ++ more))
section
variable {fs fs' ex ex' : List Addr} {H H1 H2 : Hp} {h h1 h2 h' : Heap} {a x e : Addr} {o : HO}
theorem Un.any (u : Un fs ex H H1 h h1) {b : Addr} {ob : Obj} (q : h.get? b = some ob) (n : H b = none) (hx : b ∉ ex) : ∃ sl, h1.get? b = some { ob with slots := sl } := by
  by_cases hb : b ∈ fs
  · exact u.slot b ob q n hb hx
  · exact ⟨ob.slots, u.keep b ob q n hb hx⟩
theorem Un.trans (a : Un fs ex H H1 h h1) (b : Un fs ex H1 H2 h1 h2) : Un fs ex H H2 h h2 where
  keep := fun c ob q n hc hx => b.keep c ob (a.keep c ob q n hc hx) (a.free c ob q n hx) hc hx
  slot := fun c ob q n hc hx => by
    obtain ⟨sl, e1⟩ := a.slot c ob q n hc hx
    obtain ⟨sl', e2⟩ := b.slot c _ e1 (a.free c ob q n hx) hc hx
    exact ⟨sl', e2⟩
  free := fun c ob q n hx => by
    obtain ⟨o', e1⟩ := a.there c ob q hx
    exact b.free c o' e1 (a.free c ob q n hx) hx
  there := fun c ob q hx => by
    obtain ⟨o', e1⟩ := a.there c ob q hx
    exact b.there c o' e1 hx
  tups := fun c xs q => b.tups c xs (a.tups c xs q)
  frzs := fun c ob xs q => b.frzs c ob xs (a.frzs c ob xs q)
  tbls := fun c ps q => by
    obtain ⟨m1, e1⟩ := a.tbls c ps q
    obtain ⟨m2, e2⟩ := b.tbls c _ e1
    exact ⟨m1 ++ m2, by rw [e2, Array.append_assoc]⟩
theorem Un.kept (k : ∀ b u, h.get? b = some u → h'.get? b = some u) : Un fs ex H H h h' :=
  ⟨fun b ob q _ _ _ => k b ob q, fun b ob q _ _ _ => ⟨ob.slots, k b ob q⟩, fun _ _ _ n _ => n, fun b ob q _ => ⟨ob, k b ob q⟩, fun _ _ q => q, fun _ _ _ q => q, fun _ ps q => ⟨#[], by rw [q]; simp⟩⟩
theorem Un.refl : Un fs ex H H h h := Un.kept fun _ _ q => q
theorem Un.laid (k : ∀ b u, h.get? b = some u → h'.get? b = some u) (hp : h.objs.size ≤ a) (hn : H a = none) : Un fs ex H (upd H a o) h h' where
  keep := fun b u q _ _ _ => k b u q
  slot := fun b u q _ _ _ => ⟨u.slots, k b u q⟩
  free := fun b u q n _ => by rw [upd_ne (Nat.ne_of_lt (Nat.lt_of_lt_of_le (Heap.lt_size q) hp))]; exact n
  there := fun b u q _ => ⟨u, k b u q⟩
  tups := fun b xs q => by rw [upd_ne (ne_of_none q hn)]; exact q
  frzs := fun b u xs q => by rw [upd_ne (ne_of_none q hn)]; exact q
  tbls := fun b ps q => ⟨#[], by rw [upd_ne (ne_of_none q hn), q]; simp⟩
theorem Un.write (mu : Mut (H x)) (he : e = x ∨ H e = some (.own x)) (k : ∀ b u, b ≠ e → h.get? b = some u → h'.get? b = some u) (heo : ∃ u, h'.get? e = some u) : Un fs ex H (upd H x o) h h' := by
  have hx : ∀ b, H b = none → b ≠ x := fun b n z => by subst z; rw [n] at mu; exact mu
  have hb : ∀ b, H b = none → b ≠ e := fun b n z => by
    subst z
    rcases he with r | r
    · exact hx b n r
    · rw [n] at r; cases r
  have hm : ∀ b u, H b = some u → ¬ Mut (some u) → b ≠ x := fun b u q nm z => by subst z; rw [q] at mu; exact nm mu
  refine ⟨fun b u q n _ _ => k b u (hb b n) q, fun b u q n _ _ => ⟨u.slots, k b u (hb b n) q⟩, fun b u q n _ => by rw [upd_ne (hx b n)]; exact n, fun b u q _ => ?_,
    fun b xs q => by rw [upd_ne (hm b _ q fun z => z)]; exact q, fun b u xs q => by rw [upd_ne (hm b _ q fun z => z)]; exact q, fun b ps q => ⟨#[], by rw [upd_ne (hm b _ q fun z => z), q]; simp⟩⟩
  by_cases hbe : b = e
  · subst hbe; exact heo
  · exact ⟨u, k b u hbe q⟩
theorem Un.mono (u : Un fs ex H H1 h h1) (hs : ∀ b ∈ fs, b ∈ fs') (hx : ∀ b ∈ ex, b ∈ ex') : Un fs' ex' H H1 h h1 :=
  ⟨fun b ob q n hb he => u.keep b ob q n (fun z => hb (hs b z)) fun z => he (hx b z), fun _ _ q n _ he => u.any q n fun z => he (hx _ z), fun b ob q n he => u.free b ob q n fun z => he (hx b z), fun b ob q he => u.there b ob q fun z => he (hx b z), u.tups, u.frzs, u.tbls⟩
end

/-! ### the heap without what is tracked -/
def trk (h : Heap) (H : Hp) : List Addr := (List.range h.objs.size).filter fun a => (H a).isSome
def hidT (h : Heap) (H : Hp) : Heap := PySem.W.hideAll h (trk h H)
theorem hidT_size (h : Heap) (H : Hp) : (hidT h H).objs.size = h.objs.size := PySem.W.hideAll_size _ _
theorem hidT_get {h : Heap} {H : Hp} {b : Addr} {o : Obj} (e : h.get? b = some o) (n : H b = none) : (hidT h H).get? b = some o :=
  PySem.W.hideAll_get _ e fun hm => by
    have q : (H b).isSome = true := (List.mem_filter.mp hm).2
    rw [n] at q; simp at q
theorem of_hidT {h : Heap} {H : Hp} {b : Addr} {o : Obj} (e : (hidT h H).get? b = some o) : h.get? b = some o ∧ H b = none := by
  have e' : h.get? b = some o := PySem.W.of_hideAll (trk h H) e
  refine ⟨e', ?_⟩
  cases q : H b with
  | none => rfl
  | some x =>
    have hm : b ∈ trk h H := List.mem_filter.mpr ⟨List.mem_range.mpr (Heap.lt_size e'), by simp [q]⟩
    have z : (hidT h H).get? b = none := PySem.W.hideAll_none (trk h H) hm
    rw [z] at e; cases e

/-! ### OpenK's ledger, filled with every new object but one -/
def allNews (g h : Heap) (L : Addr) : List (Addr × Obj) := (List.range h.objs.size).filterMap fun a => if a = L ∨ (g.get? a).isSome = true then none else (h.get? a).map fun o => (a, o)
theorem mem_allNews {g h : Heap} {L a : Addr} {o : Obj} (h1 : a ≠ L) (h2 : g.get? a = none) (h3 : h.get? a = some o) : (a, o) ∈ allNews g h L :=
  List.mem_filterMap.mpr ⟨a, List.mem_range.mpr (Heap.lt_size h3), by simp [h1, h2, h3]⟩
theorem of_mem_allNews {g h : Heap} {L : Addr} {p : Addr × Obj} (hp : p ∈ allNews g h L) : p.1 ≠ L ∧ g.get? p.1 = none ∧ h.get? p.1 = some p.2 := by
  obtain ⟨b, _, e⟩ := List.mem_filterMap.mp hp
  split at e
  · cases e
  · rename_i hn
    cases q : h.get? b with
    | none => rw [q] at e; simp at e
    | some u =>
      rw [q] at e
      simp only [Option.map_some, Option.some.injEq] at e
      subst e
      refine ⟨fun z => hn (.inl z), ?_, q⟩
      show g.get? b = none
      cases r : g.get? b with
      | none => rfl
      | some v => exact (hn (.inr (by simp [r]))).elim
def rest (g h : Heap) (L d : Addr) : List (Addr × Obj) := (allNews g h L).filter fun p => decide (p.1 ≠ d)
theorem rest_ne {g h : Heap} {L d : Addr} : ∀ p ∈ rest g h L d, p.1 ≠ d := fun p hp => of_decide_eq_true (List.mem_filter.mp hp).2
theorem mem_rest {g h : Heap} {L d a : Addr} {o : Obj} (h1 : a ≠ L) (h2 : g.get? a = none) (h3 : h.get? a = some o) (h4 : a ≠ d) : (a, o) ∈ rest g h L d :=
  List.mem_filter.mpr ⟨mem_allNews h1 h2 h3, decide_eq_true h4⟩
theorem news_all {g h : Heap} {L : Addr} : News g L h (allNews g h L) := fun p hp => let ⟨a, b, c⟩ := of_mem_allNews hp; ⟨c, a, b⟩
theorem news_at {g h : Heap} {L d : Addr} {o : Obj} (h1 : d ≠ L) (h2 : g.get? d = none) (h3 : h.get? d = some o) : News g L h ((d, o) :: rest g h L d) := fun p hp => by
  rcases List.mem_cons.mp hp with rfl | hp
  · exact ⟨h3, h1, h2⟩
  · exact news_all p (List.mem_filter.mp hp).1
/-- behind a rule that changed d alone: all else but the frame is kept -/
theorem kept_of_news {g h h' : Heap} {L d : Addr} {m : Str → Option Value} (k : ∀ b o, g.get? b = some o → h.get? b = some o) (F : Fr g L h' m) (N : News g L h' (rest g h L d)) :
    ∀ b o, b ≠ L → b ≠ d → h.get? b = some o → h'.get? b = some o := fun b o h1 h2 e => by
  cases q : g.get? b with
  | some u =>
    have := k b u q
    rw [e] at this; cases this
    exact F.keep b _ q
  | none => exact (N (b, o) (mem_rest h1 q e h2)).1
end L2

namespace L2
open PySem PySem.Spec PyProof.Rows

/-- the module's facts, over the base: the heap at the law's entry without what is tracked there -/
structure Mod (K : PySem.W.Frag) (mg : Str → Option Value) (base : Heap) : Prop where
  kin : K.In base
  glob : base.Ns mainGlobals mg
  blt : ∃ mb, base.Ns builtinsNs mb ∧ ∀ x : Str, x ≠ "__name__" → mb x = bootBuiltins x
  nolimit : base.NoLimit

/-- the context: a def's body (or a comprehension's block) running. base: fixed through the whole law; s₀, H₀: the entry; outer: the frames whose slots others may change (a def's callers); stack: all frames that run;
   ex: iterators that were made ahead of the entry and are walked here (a comprehension's); fn: the names whose cells were made at the entry (a def: all; a comprehension's block: its own); calm: not within an except suite; pn: pins that every state bears; xe: what is wanted of an exception that leaves the code -/
structure Cx where
  prog : Program
  w : World
  K : PySem.W.Frag
  mg : Str → Option Value
  base : Heap
  A : Around
  N : List Str
  s₀ : Shared
  H₀ : Hp
  env : Env
  outer : List Env
  stack : List Env
  ex : List Addr
  fn : Str → Bool
  calm : Bool
  pn : List (Addr × Obj)
  xe : Value → Shared → Prop
/-- the callers' frames -/
def frs (l : List Env) : List Addr := l.filterMap (·.frame)
abbrev Cx.fs (X : Cx) : List Addr := frs X.outer

def Vis (sc : Scope) (x : Str) : Prop := sc.names.lookup x = some .local ∨ sc.names.lookup x = some .cell ∨ sc.names.lookup x = some .free
def Loc (sc : Scope) (x : Str) : Prop := sc.names.lookup x = some .local ∨ sc.names.lookup x = some .cell
def Look (env : Env) (h : Heap) (m : Str → Option Value) (x : Str) (u : Value) : Prop :=
  (env.kindOf x = some .local ∧ m x = some u) ∨ ((env.kindOf x = some .cell ∨ env.kindOf x = some .free) ∧ ∃ c, env.cells.lookup x = some c ∧ h.IsCell c (some u))

structure Cx.Ok (X : Cx) : Prop where
  mod : Mod X.K X.mg X.base
  kind : X.env.scope.kind = .function
  glob : X.env.globals = mainGlobals
  blt : X.env.builtins = builtinsNs
  above : X.s₀.heap.objs.size ≤ X.env.locals
  inj : ∀ x y c, X.env.cells.lookup x = some c → X.env.cells.lookup y = some c → x = y
  has : ∀ x, (X.env.kindOf x = some .cell ∨ X.env.kindOf x = some .free) → ∃ c, X.env.cells.lookup x = some c
  cab : ∀ x c, X.fn x = true → X.env.cells.lookup x = some c → X.s₀.heap.objs.size ≤ c
  hd : X.calm = true → X.A.handled = none
  frames : X.A.frames = some X.stack
  stk : X.stack = X.outer ∨ (X.stack = X.env :: X.outer ∧ X.env.frame = some X.env.locals)
  exf : ∀ b ∈ X.ex, b ≠ X.env.locals ∧ ∀ x c, X.env.cells.lookup x = some c → c ≠ b
  bs : ∀ b o, X.base.get? b = some o → X.s₀.heap.get? b = some o ∧ X.H₀ b = none
  bsz : X.base.objs.size ≤ X.s₀.heap.objs.size
  noex : ∀ b o, X.base.get? b = some o → b ∉ X.ex
  exfs : ∀ b ∈ X.ex, b ∉ X.fs
  funs : X.s₀.heap.FunFrames X.base X.outer
  frf : ∀ b ∈ X.fs, X.H₀ b = none

structure Inv (X : Cx) (pins : List (Addr × Obj)) (σ : List (Option V)) (H : Hp) (s : Shared) : Prop where
  ok : X.Ok
  os : s.os = X.s₀.os
  bare : AllBare s.gens
  base : Un X.fs X.ex X.H₀ H X.s₀.heap s.heap
  loc : ∃ m, s.heap.Ns X.env.locals m ∧ ∀ (i : Nat) (x : Str) (v : V), X.N[i]? = some x → σ[i]? = some (some v) → Vis X.env.scope x → ∃ u, RelV v u ∧ Look X.env s.heap m x u
  cell : ∀ x c, X.env.cells.lookup x = some c → ∃ v, s.heap.IsCell c v
  free : H X.env.locals = none
  freeC : ∀ x c, X.env.cells.lookup x = some c → H c = none
  pin : ∀ p ∈ X.pn ++ pins, s.heap.get? p.1 = some p.2 ∧ H p.1 = none ∧ p.1 ≠ X.env.locals ∧ p.1 ∉ X.fs ∧ ∀ v, p.2.data ≠ .cell v
  hok : HOk X.prog X.w H s.heap
  len : σ.length = X.N.length

section
variable {X : Cx} {pins : List (Addr × Obj)} {σ : List (Option V)} {H H' : Hp} {s : Shared} {h' : Heap}

theorem Cx.Ok.nofr (ok : X.Ok) {b : Addr} {o : Obj} (e : X.base.get? b = some o) : b ∉ X.fs := fun hb => by
  have := (ok.funs.mem hb).1
  rw [e] at this; cases this
theorem Inv.bs (I : Inv X pins σ H s) : ∀ b o, X.base.get? b = some o → s.heap.get? b = some o ∧ H b = none := fun b o e =>
  ⟨I.base.keep b o (I.ok.bs b o e).1 (I.ok.bs b o e).2 (I.ok.nofr e) (I.ok.noex b o e), I.base.free b o (I.ok.bs b o e).1 (I.ok.bs b o e).2 (I.ok.noex b o e)⟩
theorem Inv.bk (I : Inv X pins σ H s) : ∀ b o, X.base.get? b = some o → s.heap.get? b = some o := fun b o e => (I.bs b o e).1
theorem Inv.mod (I : Inv X pins σ H s) : Mod X.K X.mg X.base := I.ok.mod
theorem Inv.kIn (I : Inv X pins σ H s) : X.K.In s.heap := I.ok.mod.kin.keeps I.bk
theorem Inv.nolimit (I : Inv X pins σ H s) : s.heap.NoLimit := I.ok.mod.nolimit.keeps I.bk
/-- the frame over the base: for OpenK's rules (K.In X.base is I.mod.kin) -/
theorem Inv.fr (I : Inv X pins σ H s) : ∃ m, Fr X.base X.env.locals s.heap m :=
  let ⟨m, hn, _⟩ := I.loc
  ⟨m, hn, I.bk, Nat.le_trans I.ok.bsz I.ok.above⟩
theorem Inv.lt (I : Inv X pins σ H s) : X.env.locals < s.heap.objs.size := let ⟨_, hn, _⟩ := I.loc; hn.lt
theorem Inv.sz (I : Inv X pins σ H s) : X.s₀.heap.objs.size ≤ s.heap.objs.size := Nat.le_trans I.ok.above (Nat.le_of_lt I.lt)
theorem Inv.nofs (I : Inv X pins σ H s) {a : Addr} (h : s.heap.objs.size ≤ a) : a ∉ X.fs := fun hb => by
  obtain ⟨_, o, ho, _⟩ := I.ok.funs.mem hb
  exact absurd (Nat.lt_of_lt_of_le (Heap.lt_size ho) (Nat.le_trans I.sz h)) (Nat.lt_irrefl _)
theorem Inv.cne (I : Inv X pins σ H s) : ∀ x c, X.env.cells.lookup x = some c → c ≠ X.env.locals := fun x c e z => by
  obtain ⟨v, o, ho, hd⟩ := I.cell x c e
  obtain ⟨m, ⟨o', es, ep, ho', hd', _⟩, _⟩ := I.loc
  rw [z, ho'] at ho; cases ho; rw [hd'] at hd; cases hd
theorem Inv.funs (I : Inv X pins σ H s) : s.heap.FunFrames X.base X.outer := by
  have all : ∀ (l : List Env), (∀ b ∈ frs l, b ∈ X.fs) → X.s₀.heap.FunFrames X.base l → s.heap.FunFrames X.base l := by
    intro l
    induction l with
    | nil => intro _ _; trivial
    | cons env r ih =>
      intro hs hl
      obtain ⟨hk, ⟨L, o, hf, hn, ho, hd⟩, hr⟩ := hl
      have hL : L ∈ X.fs := hs L (by unfold frs; rw [List.filterMap_cons, hf]; exact List.mem_cons_self)
      obtain ⟨sl, e⟩ := I.base.slot L o ho (I.ok.frf L hL) hL fun z => I.ok.exfs L z hL
      exact ⟨hk, ⟨L, _, hf, hn, e, hd⟩, ih (fun b hb => hs b (by unfold frs; rw [List.filterMap_cons, hf]; exact List.mem_cons_of_mem _ hb)) hr⟩
  exact all X.outer (fun _ hb => hb) I.ok.funs

/-- the frames that run, for a call -/
theorem Inv.stack (I : Inv X pins σ H s) : s.heap.FunFrames X.base X.stack := by
  rcases I.ok.stk with e | ⟨e, hf⟩
  · rw [e]; exact I.funs
  · rw [e]
    obtain ⟨m, hn, _⟩ := I.loc
    refine .cons (by rw [I.ok.kind]; decide) hf hn ?_ I.funs
    exact Heap.get?_none_of_le (Nat.le_trans I.ok.bsz I.ok.above)
theorem Inv.stkSub (I : Inv X pins σ H s) : ∀ b ∈ frs X.stack, b ∈ X.env.locals :: X.fs := fun b hb => by
  rcases I.ok.stk with e | ⟨e, hf⟩
  · rw [e] at hb; exact List.mem_cons_of_mem _ hb
  · rw [e] at hb
    unfold frs at hb
    rw [List.filterMap_cons, hf] at hb
    exact hb
theorem Inv.stkFree (I : Inv X pins σ H s) : ∀ b ∈ frs X.stack, H b = none := fun b hb => by
  rcases List.mem_cons.mp (I.stkSub b hb) with e | hb
  · rw [e]; exact I.free
  · obtain ⟨_, o, ho, _⟩ := I.ok.funs.mem hb
    exact I.base.free b o ho (I.ok.frf b hb) fun z => I.ok.exfs b z hb

/-- THE STEP: the untracked objects but the frame and the records at ch are kept (the callers' frames up to slots), the frame's map is kept, the new abstract heap is held -/
theorem Inv.step {g' : Array GenState} {t' : Nat} {d' : Drawn} {ch : List Addr} (I : Inv X pins σ H s)
    (hch : ∀ b ∈ ch, (b ∈ X.ex ∨ X.s₀.heap.objs.size ≤ b) ∧ b ≠ X.env.locals ∧ (∀ x c, X.env.cells.lookup x = some c → c ≠ b) ∧ ∀ p ∈ X.pn ++ pins, p.1 ≠ b)
    (keep : ∀ b o, b ≠ X.env.locals → b ∉ X.fs → b ∉ ch → s.heap.get? b = some o → H b = none → h'.get? b = some o)
    (slot : ∀ b o, b ≠ X.env.locals → b ∈ X.fs → b ∉ ch → s.heap.get? b = some o → H b = none → ∃ sl, h'.get? b = some { o with slots := sl }) (free : ∀ b o, b ∉ ch → s.heap.get? b = some o → H b = none → H' b = none)
    (there : ∀ b o, b ∉ ch → s.heap.get? b = some o → ∃ o', h'.get? b = some o')
    (tups : ∀ b xs, H b = some (.tup xs) → H' b = some (.tup xs)) (frzs : ∀ b o u, H b = some (.frz o u) → H' b = some (.frz o u)) (tbls : ∀ b ps, H b = some (.tbl ps) → ∃ more, H' b = some (.tbl (ps ++ more)))
    (ns : ∀ m, s.heap.Ns X.env.locals m → h'.Ns X.env.locals m) (hok : HOk X.prog X.w H' h') (hg : AllBare g') :
    Inv X pins σ H' { s with heap := h', gens := g', drawn := d', toks := t' } := by
  have neL : ∀ b o, X.s₀.heap.get? b = some o → b ≠ X.env.locals := fun b o e => Nat.ne_of_lt (Nat.lt_of_lt_of_le (Heap.lt_size e) I.ok.above)
  have neC : ∀ b o, X.s₀.heap.get? b = some o → b ∉ X.ex → b ∉ ch := fun b o e hx hb => by
    rcases (hch b hb).1 with z | z
    · exact hx z
    · exact absurd (Nat.lt_of_lt_of_le (Heap.lt_size e) z) (Nat.lt_irrefl _)
  have cellK : ∀ x c, X.env.cells.lookup x = some c → ∀ v, s.heap.IsCell c v → h'.IsCell c v := fun x c e v ⟨o, ho, hd⟩ => by
    have nch : c ∉ ch := fun z => (hch c z).2.2.1 x c e rfl
    by_cases hc : c ∈ X.fs
    · obtain ⟨sl, q⟩ := slot c o (I.cne x c e) hc nch ho (I.freeC x c e)
      exact ⟨_, q, hd⟩
    · exact ⟨o, keep c o (I.cne x c e) hc nch ho (I.freeC x c e), hd⟩
  refine ⟨I.ok, I.os, hg, ⟨fun b o e n hb hx => ?_, fun b o e n hb hx => ?_, fun b o e n hx => ?_, fun b o e hx => ?_, fun b xs e => tups b xs (I.base.tups b xs e), fun b o xs e => frzs b o xs (I.base.frzs b o xs e), fun b ps e => ?_⟩, ?_, fun x c e => ?_, ?_, fun x c e => ?_, fun p hp => ?_, hok, I.len⟩
  · exact keep b o (neL b o e) hb (neC b o e hx) (I.base.keep b o e n hb hx) (I.base.free b o e n hx)
  · obtain ⟨sl, e1⟩ := I.base.slot b o e n hb hx
    obtain ⟨sl', e2⟩ := slot b _ (neL b o e) hb (neC b o e hx) e1 (I.base.free b o e n hx)
    exact ⟨sl', e2⟩
  · obtain ⟨o', e1⟩ := I.base.there b o e hx
    exact free b o' (neC b o e hx) e1 (I.base.free b o e n hx)
  · obtain ⟨o', e1⟩ := I.base.there b o e hx
    exact there b o' (neC b o e hx) e1
  · obtain ⟨m1, e1⟩ := I.base.tbls b ps e
    obtain ⟨m2, e2⟩ := tbls b _ e1
    exact ⟨m1 ++ m2, by rw [e2, Array.append_assoc]⟩
  · obtain ⟨m, hn, hl⟩ := I.loc
    refine ⟨m, ns m hn, fun i x v e1 e2 e3 => ?_⟩
    obtain ⟨u, r, l⟩ := hl i x v e1 e2 e3
    refine ⟨u, r, ?_⟩
    rcases l with l | ⟨k, c, e, z⟩
    · exact .inl l
    · exact .inr ⟨k, c, e, cellK x c e _ z⟩
  · obtain ⟨v, z⟩ := I.cell x c e
    exact ⟨v, cellK x c e v z⟩
  · obtain ⟨m, ⟨o, _, _, ho, _⟩, _⟩ := I.loc
    exact free _ o (fun z => (hch _ z).2.1 rfl) ho I.free
  · obtain ⟨v, o, ho, hd⟩ := I.cell x c e
    exact free c o (fun z => (hch c z).2.2.1 x c e rfl) ho (I.freeC x c e)
  · obtain ⟨e, n, ne, nf, d⟩ := I.pin p hp
    have nch : p.1 ∉ ch := fun z => (hch p.1 z).2.2.2 p hp rfl
    exact ⟨keep p.1 p.2 ne nf nch e n, free p.1 p.2 nch e n, ne, nf, d⟩
/-- .. where the frame's own object is kept too -/
theorem Inv.un {t' : Nat} (I : Inv X pins σ H s) (u : Un X.fs [] H H' s.heap h') (hok : HOk X.prog X.w H' h') : Inv X pins σ H' { s with heap := h', toks := t' } := by
  obtain ⟨m, ⟨o, es, ep, ho, r⟩, _⟩ := id I.loc
  obtain ⟨sl, hL⟩ := u.any ho I.free (by simp)
  exact I.step (g' := s.gens) (d' := s.drawn) (ch := []) (fun _ z => nomatch z) (fun b o _ hb _ e n => u.keep b o e n hb (by simp)) (fun b o _ hb _ e n => u.slot b o e n hb (by simp)) (fun b o _ e n => u.free b o e n (by simp)) (fun b o _ e => u.there b o e (by simp)) u.tups u.frzs u.tbls (fun m' hm => by
    obtain ⟨o', es', ep', ho', r'⟩ := hm
    rw [ho] at ho'; cases ho'
    exact ⟨_, es', ep', hL, r'⟩) hok I.bare
/-- behind a call (or a comprehension's block): the slots of this frame may have changed too, the records at ch may have turned -/
theorem Inv.call {g' : Array GenState} {t' : Nat} {d' : Drawn} {ch : List Addr} (I : Inv X pins σ H s) (u : Un (frs X.stack) ch H H' s.heap h') (hok : HOk X.prog X.w H' h') (hg : AllBare g')
    (hch : ∀ b ∈ ch, (b ∈ X.ex ∨ X.s₀.heap.objs.size ≤ b) ∧ b ≠ X.env.locals ∧ (∀ x c, X.env.cells.lookup x = some c → c ≠ b) ∧ ∀ p ∈ X.pn ++ pins, p.1 ≠ b) :
    Inv X pins σ H' { s with heap := h', gens := g', drawn := d', toks := t' } := by
  obtain ⟨m, ⟨o, es, ep, ho, r⟩, _⟩ := id I.loc
  obtain ⟨sl, hL⟩ := u.any ho I.free fun z => (hch _ z).2.1 rfl
  exact I.step (ch := ch) hch (fun b o hL hb hc e n => u.keep b o e n (fun z => (List.mem_cons.mp (I.stkSub b z)).elim hL hb) hc) (fun b o _ _ hc e n => u.any e n hc) (fun b o hc e n => u.free b o e n hc) (fun b o hc e => u.there b o e hc) u.tups u.frzs u.tbls (fun m' hm => by
    obtain ⟨o', es', ep', ho', r'⟩ := hm
    rw [ho] at ho'; cases ho'
    exact ⟨_, es', ep', hL, r'⟩) hok hg
/-- an untracked record of ours (an iterator) has turned -/
theorem Inv.turned {t' : Nat} {it : Addr} (I : Inv X pins σ H s) (k : ∀ b o, b ≠ it → s.heap.get? b = some o → h'.get? b = some o) (hn : H it = none) (hL : it ≠ X.env.locals)
    (h1 : it ∈ X.ex ∨ X.s₀.heap.objs.size ≤ it) (h2 : ∀ x c, X.env.cells.lookup x = some c → c ≠ it) (h3 : ∀ p ∈ X.pn ++ pins, p.1 ≠ it) : Inv X pins σ H { s with heap := h', toks := t' } := by
  have nit : ∀ b u, H b = some u → b ≠ it := fun b u e z => by rw [z, hn] at e; cases e
  refine I.step (g' := s.gens) (d' := s.drawn) (ch := [it]) (fun b hb => ?_) (fun b o _ _ hc e _ => k b o (fun z => hc (by simp [z])) e) (fun b o _ _ hc e _ => ⟨o.slots, k b o (fun z => hc (by simp [z])) e⟩) (fun _ _ _ _ n => n)
    (fun b o hc e => ⟨o, k b o (fun z => hc (by simp [z])) e⟩) (fun _ _ e => e) (fun _ _ _ e => e) (fun b ps e => ⟨#[], by rw [e]; simp⟩) (fun m hm => ?_) (fun b u e => ?_) I.bare
  · have e : b = it := by simpa using hb
    subst e
    exact ⟨h1, hL, h2, h3⟩
  · obtain ⟨o, es, ep, ho, r⟩ := hm
    exact ⟨o, es, ep, k _ o (Ne.symm hL) ho, r⟩
  · refine (I.hok b u e).stay (fun c v hc q => k c v ?_ q) (fun _ q => q) fun _ _ q => q
    rcases hc with z | z
    · rw [z]; exact nit b u e
    · exact nit c _ z
theorem Inv.tok (I : Inv X pins σ H s) (t : Nat) : Inv X pins σ H { s with toks := t } := I.un (h' := s.heap) (t' := t) Un.refl I.hok
/-- all objects kept -/
theorem Inv.kept {t' : Nat} (I : Inv X pins σ H s) (k : ∀ b u, s.heap.get? b = some u → h'.get? b = some u) : Inv X pins σ H { s with heap := h', toks := t' } := I.un (Un.kept k) (I.hok.kept k)
/-- a new object laid and tracked -/
theorem Inv.laid {a : Addr} {o : HO} {t' : Nat} (I : Inv X pins σ H s) (k : ∀ b u, s.heap.get? b = some u → h'.get? b = some u) (hp : s.heap.objs.size ≤ a) (new : ObjOk X.prog X.w (upd H a o) h' a o) :
    Inv X pins σ (upd H a o) { s with heap := h', toks := t' } := I.un (Un.laid k hp (I.hok.fresh hp)) (I.hok.laid k hp new)
/-- an object written -/
theorem Inv.write {x e : Addr} {o : HO} {t' : Nat} (I : Inv X pins σ H s) (mu : Mut (H x)) (he : e = x ∨ H e = some (.own x)) (k : ∀ b u, b ≠ e → s.heap.get? b = some u → h'.get? b = some u) (heo : ∃ u, h'.get? e = some u)
    (new : ObjOk X.prog X.w (upd H x o) h' x o) : Inv X pins σ (upd H x o) { s with heap := h', toks := t' } := I.un (Un.write mu he k heo) (I.hok.write mu he k heo new)
/-- forgetting slots, pins -/
theorem Inv.weak {σ' : List (Option V)} (I : Inv X pins σ H s) (hl : σ'.length = σ.length) (w : ∀ (i : Nat) v, σ'[i]? = some (some v) → σ[i]? = some (some v)) : Inv X pins σ' H s :=
  ⟨I.ok, I.os, I.bare, I.base, let ⟨m, hn, hl'⟩ := I.loc; ⟨m, hn, fun i x v e1 e2 e3 => hl' i x v e1 (w i v e2) e3⟩, I.cell, I.free, I.freeC, I.pin, I.hok, hl.trans I.len⟩
theorem Inv.pins_of {pins' : List (Addr × Obj)} (I : Inv X pins σ H s) (h : ∀ p ∈ pins', s.heap.get? p.1 = some p.2 ∧ H p.1 = none ∧ p.1 ≠ X.env.locals ∧ p.1 ∉ X.fs ∧ ∀ v, p.2.data ≠ .cell v) : Inv X pins' σ H s :=
  ⟨I.ok, I.os, I.bare, I.base, I.loc, I.cell, I.free, I.freeC, fun p hp => (List.mem_append.mp hp).elim (fun z => I.pin p (List.mem_append_left _ z)) (h p), I.hok, I.len⟩

theorem nodup_ix {N : List Str} (hN : N.Nodup) {i j : Nat} {x : Str} (a : N[i]? = some x) (b : N[j]? = some x) : i = j := by
  obtain ⟨h1, e1⟩ := List.getElem?_eq_some_iff.mp a
  obtain ⟨h2, e2⟩ := List.getElem?_eq_some_iff.mp b
  exact (List.getElem_inj hN).mp (e1.trans e2.symm)

/-- a name is stored; what changed -/
theorem store_ok2 {M : Model} {A : Around} {E : Value → Shared → Prop} {i : Nat} {x : Str} {v : V} {u : Value} {Q : Unit → Shared → Prop} (I : Inv X pins σ H s) (hN : X.N.Nodup) (hi : X.N[i]? = some x) (hx : Loc X.env.scope x) (r : RelV v u)
    (h : ∀ s', Inv X pins (σ.set i (some v)) H s' → (∃ a, Heap.SameBut a s.heap s'.heap ∧ (a = X.env.locals ∨ X.env.cells.lookup x = some a)) → Q () s') (hf : X.fn x = true ∨ X.env.scope.names.lookup x = some .local := by first | exact .inl rfl | exact .inr rfl | assumption) : wpAny M A (storeName X.env x u) Q E s := by
  obtain ⟨m, hn, hl⟩ := id I.loc
  have hcls : (X.env.scope.kind == .class || (X.env.scope.kind == .module && X.env.locals != X.env.globals)) = false := by rw [I.ok.kind]; rfl
  have hiσ : i < σ.length := by rw [I.len]; exact (List.getElem?_eq_some_iff.mp hi).1
  have cne := I.cne
  have tracked : ∀ {a : Addr} {h' : Heap}, (∃ o, s.heap.get? a = some o ∧ H a = none) → Heap.SameBut a s.heap h' → HOk X.prog X.w H h' := fun {a h'} ha hs b ob e => by
    obtain ⟨_, _, hfree⟩ := ha
    refine (I.hok b ob e).stay (fun c w' hc q => (hs.2 c ?_).trans q) (fun _ q => q) fun _ _ q => q
    rintro rfl
    rcases hc with rfl | hc
    · rw [hfree] at e; cases e
    · rw [hfree] at hc; cases hc
  rcases hx with hk | hk
  · refine wpAny_storeName_local hk hn (fun h' hn' hs => ?_) hcls
    obtain ⟨oL, _, _, hoL, _⟩ := id hn
    refine h _ ⟨I.ok, I.os, I.bare, ⟨fun b o e n hb hx => ?_, fun b o e n hb hx => ?_, I.base.free, fun b o e hx => ?_, I.base.tups, I.base.frzs, I.base.tbls⟩, ⟨_, hn', fun j y v' e1 e2 e3 => ?_⟩, fun y c e => ?_, I.free, I.freeC, fun p hp => ?_, tracked ⟨oL, hoL, I.free⟩ hs, by simpa using I.len⟩ ⟨_, hs, .inl rfl⟩
    · exact (hs.2 b (Nat.ne_of_lt (Nat.lt_of_lt_of_le (Heap.lt_size e) I.ok.above))).trans (I.base.keep b o e n hb hx)
    · obtain ⟨sl, e1⟩ := I.base.slot b o e n hb hx
      exact ⟨sl, (hs.2 b (Nat.ne_of_lt (Nat.lt_of_lt_of_le (Heap.lt_size e) I.ok.above))).trans e1⟩
    · obtain ⟨o', e1⟩ := I.base.there b o e hx
      exact ⟨o', (hs.2 b (Nat.ne_of_lt (Nat.lt_of_lt_of_le (Heap.lt_size e) I.ok.above))).trans e1⟩
    · by_cases hj : j = i
      · subst hj
        rw [hi] at e1; cases e1
        rw [List.getElem?_set_self hiσ] at e2
        cases e2
        exact ⟨u, r, .inl ⟨hk, by simp⟩⟩
      · rw [List.getElem?_set_ne (Ne.symm hj)] at e2
        obtain ⟨u', r', q⟩ := hl j y v' e1 e2 e3
        refine ⟨u', r', ?_⟩
        rcases q with ⟨k, e⟩ | ⟨k, c, e, z⟩
        · refine .inl ⟨k, ?_⟩
          have : y ≠ x := fun e => hj (nodup_ix hN e1 (e ▸ hi))
          simp [this, e]
        · exact .inr ⟨k, c, e, z.sameBut hs (cne y c e)⟩
    · obtain ⟨w', z⟩ := I.cell y c e
      exact ⟨w', z.sameBut hs (cne y c e)⟩
    · obtain ⟨e, n, ne, nf, d⟩ := I.pin p hp
      exact ⟨(hs.2 p.1 ne).trans e, n, ne, nf, d⟩
  · have hfn : X.fn x = true := by
      rcases hf with z | z
      · exact z
      · rw [z] at hk; cases hk
    obtain ⟨c, hc⟩ := I.ok.has x (.inl hk)
    obtain ⟨w', z⟩ := I.cell x c hc
    refine wpAny_storeName_cell I.ok.kind hk hc z (fun h' hc' hs => ?_)
    obtain ⟨oc, hoc, hocd⟩ := id z
    refine h { s with heap := h' } ⟨I.ok, I.os, I.bare, ⟨fun b o e n hb hx => ?_, fun b o e n hb hx => ?_, I.base.free, fun b o e hx => ?_, I.base.tups, I.base.frzs, I.base.tbls⟩, ⟨m, hn.sameBut hs (Ne.symm (cne x c hc)), fun j y v' e1 e2 e3 => ?_⟩, fun y c' e => ?_, I.free, I.freeC, fun p hp => ?_, tracked ⟨oc, hoc, I.freeC x c hc⟩ hs, by simpa using I.len⟩ ⟨c, hs, .inr hc⟩
    · exact (hs.2 b (Nat.ne_of_lt (Nat.lt_of_lt_of_le (Heap.lt_size e) (I.ok.cab x c hfn hc)))).trans (I.base.keep b o e n hb hx)
    · obtain ⟨sl, e1⟩ := I.base.slot b o e n hb hx
      exact ⟨sl, (hs.2 b (Nat.ne_of_lt (Nat.lt_of_lt_of_le (Heap.lt_size e) (I.ok.cab x c hfn hc)))).trans e1⟩
    · obtain ⟨o', e1⟩ := I.base.there b o e hx
      exact ⟨o', (hs.2 b (Nat.ne_of_lt (Nat.lt_of_lt_of_le (Heap.lt_size e) (I.ok.cab x c hfn hc)))).trans e1⟩
    · by_cases hj : j = i
      · subst hj
        rw [hi] at e1; cases e1
        rw [List.getElem?_set_self hiσ] at e2
        cases e2
        exact ⟨u, r, .inr ⟨.inl hk, c, hc, hc'⟩⟩
      · rw [List.getElem?_set_ne (Ne.symm hj)] at e2
        obtain ⟨u', r', q⟩ := hl j y v' e1 e2 e3
        refine ⟨u', r', ?_⟩
        rcases q with q | ⟨k, c', e, z'⟩
        · exact .inl q
        · refine .inr ⟨k, c', e, z'.sameBut hs ?_⟩
          rintro rfl
          exact hj (nodup_ix hN e1 (I.ok.inj _ _ _ e hc ▸ hi))
    · by_cases hcc : c' = c
      · subst hcc; exact ⟨_, hc'⟩
      · obtain ⟨w2, z2⟩ := I.cell y c' e
        exact ⟨w2, z2.sameBut hs hcc⟩
    · obtain ⟨e, n, ne, nf, d⟩ := I.pin p hp
      refine ⟨(hs.2 p.1 ?_).trans e, n, ne, nf, d⟩
      intro q
      rw [q, hoc] at e
      have q' : oc = p.2 := Option.some.inj e
      exact d w' (by rw [← q']; exact hocd)
theorem store_ok {M : Model} {A : Around} {E : Value → Shared → Prop} {i : Nat} {x : Str} {v : V} {u : Value} {Q : Unit → Shared → Prop} (I : Inv X pins σ H s) (hN : X.N.Nodup) (hi : X.N[i]? = some x) (hx : Loc X.env.scope x) (r : RelV v u)
    (h : ∀ s', Inv X pins (σ.set i (some v)) H s' → Q () s') (hf : X.fn x = true ∨ X.env.scope.names.lookup x = some .local := by first | exact .inl rfl | exact .inr rfl | assumption) : wpAny M A (storeName X.env x u) Q E s :=
  store_ok2 I hN hi hx r (fun s' I' _ => h s' I') hf
/-- behind a call or a block, the state as it is -/
theorem Inv.call' {s' : Shared} {ch : List Addr} (I : Inv X pins σ H s) (ho : s'.os = s.os) (u : Un (frs X.stack) ch H H' s.heap s'.heap) (hok : HOk X.prog X.w H' s'.heap) (hg : AllBare s'.gens)
    (hch : ∀ b ∈ ch, (b ∈ X.ex ∨ X.s₀.heap.objs.size ≤ b) ∧ b ≠ X.env.locals ∧ (∀ x c, X.env.cells.lookup x = some c → c ≠ b) ∧ ∀ p ∈ X.pn ++ pins, p.1 ≠ b) : Inv X pins σ H' s' := by
  obtain ⟨h', g', d', t', o'⟩ := s'
  have e : o' = s.os := ho
  subst e
  exact I.call (g' := g') (t' := t') (d' := d') u hok hg hch
end

/-! ### the judgements -/
/-- an exception: its class, its own dict's address (where it has one), the abstract heap behind it -/
abbrev XK := Value → Option Addr → Hp → Prop
abbrev St := List (Option V)
abbrev VK := V → Hp → Prop
/-- an expression's reading; a test's; an argument list's -/
abbrev TE := St → Hp → VK → Prop
abbrev TT := St → Hp → (Bool → Hp → Prop) → Prop
abbrev TA := St → Hp → (List V → Hp → Prop) → Prop
/-- what is wanted behind a statement -/
structure Ends where
  nx : St → Hp → Prop
  rt : VK
  bk : St → Hp → Prop := fun _ _ => False
  ct : St → Hp → Prop := fun _ _ => False
abbrev TS := Ends → St → Hp → Prop

def EP (X : Cx) (pins : List (Addr × Obj)) (σ : St) (Q : VK) (u : Value) (s' : Shared) : Prop := ∃ v H', Inv X pins σ H' s' ∧ RelV v u ∧ Q v H'
def TP (X : Cx) (pins : List (Addr × Obj)) (σ : St) (Q : Bool → Hp → Prop) (b : Bool) (s' : Shared) : Prop := ∃ H', Inv X pins σ H' s' ∧ Q b H'
def AP (X : Cx) (pins : List (Addr × Obj)) (σ : St) (Q : List V → Hp → Prop) (us : List Value) (s' : Shared) : Prop := ∃ vs H', Inv X pins σ H' s' ∧ Vals vs us ∧ Q vs H'
def SP (X : Cx) (pins : List (Addr × Obj)) (D : Ends) (f : Flow) (s' : Shared) : Prop :=
  match f with
  | .next => ∃ σ' H', Inv X pins σ' H' s' ∧ D.nx σ' H'
  | .brk => ∃ σ' H', Inv X pins σ' H' s' ∧ D.bk σ' H'
  | .cont => ∃ σ' H', Inv X pins σ' H' s' ∧ D.ct σ' H'
  | .ret u => ∃ v σ' H', Inv X pins σ' H' s' ∧ RelV v u ∧ D.rt v H'

def PE (X : Cx) (e : Expr) (t : TE) : Prop :=
  ∀ (pins : List (Addr × Obj)) (s : Shared) (σ : St) (H : Hp) (Q : VK), Inv X pins σ H s → t σ H Q → wpAny (model X.prog X.w) X.A (eval e X.env) (EP X pins σ Q) X.xe s
def PT (X : Cx) (e : Expr) (t : TT) : Prop :=
  ∀ (pins : List (Addr × Obj)) (s : Shared) (σ : St) (H : Hp) (Q : Bool → Hp → Prop), Inv X pins σ H s → t σ H Q → wpAny (model X.prog X.w) X.A (isTrue e X.env (eval e X.env)) (TP X pins σ Q) X.xe s
/-- a test whatever its 'whole' is (and, or) -/
def PW (X : Cx) (e : Expr) (t : TT) : Prop :=
  ∀ (whole : Sem Value) (pins : List (Addr × Obj)) (s : Shared) (σ : St) (H : Hp) (Q : Bool → Hp → Prop), Inv X pins σ H s → t σ H Q → wpAny (model X.prog X.w) X.A (isTrue e X.env whole) (TP X pins σ Q) X.xe s
theorem PW.pt {X : Cx} {e : Expr} {t : TT} (h : PW X e t) : PT X e t := h _
/-- an argument list (no star), from the left -/
def PA (X : Cx) (es : List Expr) (t : TA) : Prop :=
  ∀ (pos : Pos) (pins : List (Addr × Obj)) (s : Shared) (σ : St) (H : Hp) (Q : List V → Hp → Prop), Inv X pins σ H s → t σ H Q → wpAny (model X.prog X.w) X.A (spliced (backTo pos (starEach es X.env))) (AP X pins σ Q) X.xe s
def PS (X : Cx) (st : Stmt) (t : TS) : Prop :=
  ∀ (pins : List (Addr × Obj)) (s : Shared) (σ : St) (H : Hp) (D : Ends), Inv X pins σ H s → t D σ H → wpAny (model X.prog X.w) X.A (exec st X.env) (SP X pins D) X.xe s
def PSs (X : Cx) (st : List Stmt) (t : TS) : Prop :=
  ∀ (pins : List (Addr × Obj)) (s : Shared) (σ : St) (H : Hp) (D : Ends), Inv X pins σ H s → t D σ H → wpAny (model X.prog X.w) X.A (execs st X.env) (SP X pins D) X.xe s
/-- weaken the end -/
theorem thn {α : Type} {t : Sem α} {Q Q' : α → Shared → Prop} {M : Model} {A : Around} {E : Value → Shared → Prop} {s : Shared} (h : wpAny M A t Q E s) (hQ : ∀ a s, Q a s → Q' a s) : wpAny M A t Q' E s := wpAny_mono h hQ fun _ _ x => x
end L2

namespace L2
open PySem PySem.Spec PyProof.Rows
section
variable {X : Cx}

/-- two expressions in a row -/
theorem bin {a b : Expr} {ta tb : TE} (ha : PE X a ta) (hb : PE X b tb) {pins : List (Addr × Obj)} {s : Shared} {σ : St} {H : Hp} {R : V → V → Hp → Prop} (I : Inv X pins σ H s) (h : ta σ H fun x H1 => tb σ H1 fun y H2 => R x y H2)
    {α : Type} {Q : α → Shared → Prop} {f : Value → Value → Sem α}
    (hf : ∀ v u s2 x y H2, Inv X pins σ H2 s2 → RelV x v → RelV y u → R x y H2 → wpAny (model X.prog X.w) X.A (f v u) Q X.xe s2) :
    wpAny (model X.prog X.w) X.A (eval a X.env) (fun v s₁ => wpAny (model X.prog X.w) X.A (eval b X.env) (fun u s₂ => wpAny (model X.prog X.w) X.A (f v u) Q X.xe s₂) X.xe s₁) X.xe s := by
  refine thn (ha pins s σ H _ I h) fun v s1 ⟨x, H1, I1, r1, q1⟩ => ?_
  refine thn (hb pins s1 σ H1 _ I1 q1) fun u s2 ⟨y, H2, I2, r2, q2⟩ => ?_
  exact hf v u s2 x y H2 I2 r1 r2 q2

/-! ### names and constants -/
def tVar (i : Nat) : TE := fun σ H Q => ∃ v, σ[i]? = some (some v) ∧ Q v H
def tC (v : V) : TE := fun _ H Q => Q v H
theorem pe_var {i : Nat} {x : Str} {pos : Pos} (hN : X.N[i]? = some x) (hv : Vis X.env.scope x) (hd : (x == ("__debug__" : Str)) = false := by decide) (hcd : (x == ("__classdict__" : Str)) = false := by decide) : PE X (.Name x pos) (tVar i) := by
  intro pins s σ H Q I h
  obtain ⟨v, e, h⟩ := h
  obtain ⟨m, hn, hl⟩ := I.loc
  obtain ⟨u, r, l⟩ := hl i x v hN e hv
  have fin : EP X pins σ Q u s := ⟨v, H, I, r, h⟩
  rcases l with ⟨hk, hm⟩ | ⟨hk, c, hc, hcell⟩
  · exact wpAny_Name (wpAny_loadName_local I.ok.kind hk hn hm fin) hd
  · rcases hk with hk | hk
    · exact wpAny_Name (wpAny_loadName_cell I.ok.kind hk hc hcell fin) hd
    · exact wpAny_Name (wpAny_loadName_free I.ok.kind hk hc hcell fin hcd) hd
theorem pe_int {i j pos} : PE X (.Constant (.int i) j pos) (tC (.int i)) := fun _ _ _ H _ I h => wpAny_Constant_int ⟨.int i, H, I.tok _, ⟨_, rfl⟩, h⟩
theorem pe_bl {b j pos} : PE X (.Constant (.bool b) j pos) (tC (.bl b)) := fun _ _ _ H _ I h => Constant_bool ⟨.bl b, H, I, rfl, h⟩
theorem pe_non {j pos} : PE X (.Constant .none j pos) (tC .non) := fun _ _ _ H _ I h => Constant_none ⟨.non, H, I, rfl, h⟩
theorem pe_str {x j pos} : PE X (.Constant (.str x) j pos) (tC (.str x)) := fun _ _ _ H _ I h => Calls.Constant_str ⟨.str x, H, I.tok _, ⟨_, rfl⟩, h⟩

/-- a global name of the def -/
def Gl (X : Cx) (x : Str) : Prop := X.env.kindOf x = some .globalImplicit
theorem ld_glob {E : Value → Shared → Prop} {pins : List (Addr × Obj)} {s : Shared} {σ : St} {H : Hp} {x : Str} {u : Value} {pos : Pos} {Q : Value → Shared → Prop} (I : Inv X pins σ H s) (hg : Gl X x) (hm : X.mg x = some u) (h : Q u s)
    (hd : (x == ("__debug__" : Str)) = false := by decide) : wpAny (model X.prog X.w) X.A (eval (.Name x pos) X.env) Q E s :=
  Calls.Name_function_global I.ok.kind hg (Calls.loadGlobal_global (by rw [I.ok.glob]; exact I.mod.glob.keeps I.bk) hm h) hd
theorem ld_blt {E : Value → Shared → Prop} {pins : List (Addr × Obj)} {s : Shared} {σ : St} {H : Hp} {x : Str} {u : Value} {pos : Pos} {Q : Value → Shared → Prop} (I : Inv X pins σ H s) (hg : Gl X x) (hm : X.mg x = none) (hv : bootBuiltins x = some u) (h : Q u s)
    (hn : x ≠ "__name__" := by decide) (hd : (x == ("__debug__" : Str)) = false := by decide) : wpAny (model X.prog X.w) X.A (eval (.Name x pos) X.env) Q E s := by
  obtain ⟨mb, h1, h2⟩ := I.mod.blt
  exact Calls.Name_function_global I.ok.kind hg (Calls.loadGlobal_builtin (by rw [I.ok.glob]; exact I.mod.glob.keeps I.bk) hm (by rw [I.ok.blt]; exact h1.keeps I.bk) ((h2 x hn).trans hv) h) hd
/-- a module's constant, a class, a function, as a value -/
theorem pe_glob {x : Str} {v : V} {u : Value} {pos : Pos} (hg : Gl X x) (hm : X.mg x = some u) (r : RelV v u) (hd : (x == ("__debug__" : Str)) = false := by decide) : PE X (.Name x pos) (tC v) :=
  fun _ _ _ H _ I h => ld_glob I hg hm ⟨v, H, I, r, h⟩ hd
theorem pe_bltn {x : Str} {v : V} {u : Value} {pos : Pos} (hg : Gl X x) (hm : X.mg x = none) (hv : bootBuiltins x = some u) (r : RelV v u) (hn : x ≠ "__name__" := by decide) (hd : (x == ("__debug__" : Str)) = false := by decide) : PE X (.Name x pos) (tC v) :=
  fun _ _ _ H _ I h => ld_blt I hg hm hv ⟨v, H, I, r, h⟩ hn hd

/-! ### arithmetic -/
/-- two ints -/
def t2I (ta tb : TE) (k : Int → Int → Hp → Prop) : St → Hp → Prop := fun σ H => ta σ H fun x H1 => tb σ H1 fun y H2 => ∃ i j, x = .int i ∧ y = .int j ∧ k i j H2
def tAdd (ta tb : TE) : TE := fun σ H Q => t2I ta tb (fun i j H2 => Q (.int (i + j)) H2) σ H
def tSub (ta tb : TE) : TE := fun σ H Q => t2I ta tb (fun i j H2 => Q (.int (i - j)) H2) σ H
/-- the left factor below 2^64 -/
def tMul (ta tb : TE) : TE := fun σ H Q => t2I ta tb (fun i j H2 => (-(2 ^ 64) < i ∧ i < 2 ^ 64) ∧ Q (.int (i * j)) H2) σ H
variable {a b : Expr} {ta tb : TE} {pos : Pos}
theorem pe_add (ha : PE X a ta) (hb : PE X b tb) : PE X (.BinOp a .Add b pos) (tAdd ta tb) := by
  intro pins s σ H Q I h
  refine wpAny_BinOp (bin ha hb I h fun v u s2 x y H2 I2 rx ry q => ?_)
  obtain ⟨i, j, rfl, rfl, q⟩ := q
  obtain ⟨t, rfl⟩ := rx
  obtain ⟨t', rfl⟩ := ry
  exact add_int ⟨.int _, H2, I2.tok _, ⟨_, rfl⟩, q⟩
theorem pe_sub (ha : PE X a ta) (hb : PE X b tb) : PE X (.BinOp a .Sub b pos) (tSub ta tb) := by
  intro pins s σ H Q I h
  refine wpAny_BinOp (bin ha hb I h fun v u s2 x y H2 I2 rx ry q => ?_)
  obtain ⟨i, j, rfl, rfl, q⟩ := q
  obtain ⟨t, rfl⟩ := rx
  obtain ⟨t', rfl⟩ := ry
  exact sub_int ⟨.int _, H2, I2.tok _, ⟨_, rfl⟩, q⟩
theorem pe_mul (ha : PE X a ta) (hb : PE X b tb) : PE X (.BinOp a .Mult b pos) (tMul ta tb) := by
  intro pins s σ H Q I h
  refine wpAny_BinOp (bin ha hb I h fun v u s2 x y H2 I2 rx ry q => ?_)
  obtain ⟨i, j, rfl, rfl, ⟨q1, q2⟩, q⟩ := q
  obtain ⟨t, rfl⟩ := rx
  obtain ⟨t', rfl⟩ := ry
  exact mul_int ⟨.int _, H2, I2.tok _, ⟨_, rfl⟩, q⟩ (.of_left (intBits_le_64 q1 q2))

/-! ### comparisons -/
def PC (X : Cx) (op : CmpOp) (a b : Expr) (t : TE) : Prop :=
  ∀ (pins : List (Addr × Obj)) (s : Shared) (σ : St) (H : Hp) (Q : VK), Inv X pins σ H s → t σ H Q →
    wpAny (model X.prog X.w) X.A (eval a X.env) (fun v s₁ => wpAny (model X.prog X.w) X.A (eval b X.env) (fun u s₂ => wpAny (model X.prog X.w) X.A (compareOp op v u) (EP X pins σ Q) X.xe s₂) X.xe s₁) X.xe s
theorem nobehind (b : Expr) {op : CmpOp} (h : op ≠ .In) (h2 : op ≠ .NotIn) : behindInMarks op b = false := by
  have e1 : (op == CmpOp.In) = false := by cases op <;> first | rfl | exact absurd rfl h
  have e2 : (op == CmpOp.NotIn) = false := by cases op <;> first | rfl | exact absurd rfl h2
  cases b <;> simp [behindInMarks, e1, e2]
def tCmp (p : Int → Int → Bool) (ta tb : TE) : TE := fun σ H Q => t2I ta tb (fun i j H2 => Q (.bl (p i j)) H2) σ H
abbrev tLt : TE → TE → TE := tCmp fun i j => decide (i < j)
abbrev tLe : TE → TE → TE := tCmp fun i j => decide (i ≤ j)
abbrev tGt : TE → TE → TE := tCmp fun i j => decide (j < i)
abbrev tGe : TE → TE → TE := tCmp fun i j => decide (j ≤ i)
abbrev tEqI : TE → TE → TE := tCmp fun i j => decide (i = j)
abbrev tNeI : TE → TE → TE := tCmp fun i j => !decide (i = j)
/-- a comparison of two ints, by its rule -/
theorem pc_int {op : CmpOp} {p : Int → Int → Bool} (ha : PE X a ta) (hb : PE X b tb)
    (rule : ∀ (i j : Int) (t u : Tok) (Q : Value → Shared → Prop) (s : Shared), Q (.bool (p i j)) s → wpAny (model X.prog X.w) X.A (compareOp op (.int i t) (.int j u)) Q X.xe s) : PC X op a b (tCmp p ta tb) := by
  intro pins s σ H Q I h
  refine bin ha hb I h fun v u s2 x y H2 I2 rx ry q => ?_
  obtain ⟨i, j, rfl, rfl, q⟩ := q
  obtain ⟨t, rfl⟩ := rx
  obtain ⟨t', rfl⟩ := ry
  exact rule i j t t' _ s2 ⟨.bl _, H2, I2, rfl, q⟩
theorem pc_lt (ha : PE X a ta) (hb : PE X b tb) : PC X .Lt a b (tLt ta tb) := pc_int ha hb fun _ _ _ _ _ _ h => lt_int h
theorem pc_le (ha : PE X a ta) (hb : PE X b tb) : PC X .LtE a b (tLe ta tb) := pc_int ha hb fun _ _ _ _ _ _ h => le_int h
theorem pc_gt (ha : PE X a ta) (hb : PE X b tb) : PC X .Gt a b (tGt ta tb) := pc_int ha hb fun _ _ _ _ _ _ h => gt_int h
theorem pc_ge (ha : PE X a ta) (hb : PE X b tb) : PC X .GtE a b (tGe ta tb) := pc_int ha hb fun _ _ _ _ _ _ h => ge_int h
theorem pc_eqI (ha : PE X a ta) (hb : PE X b tb) : PC X .Eq a b (tEqI ta tb) := pc_int ha hb fun _ _ _ _ _ _ h => eq_int (by rw [Bool.beq_eq_decide_eq]; exact h)
theorem pc_neI (ha : PE X a ta) (hb : PE X b tb) : PC X .NotEq a b (tNeI ta tb) := pc_int ha hb fun _ _ _ _ _ _ h => ne_int (by rw [bne, Bool.beq_eq_decide_eq]; exact h)
/-- is None -/
def tIsN (ta : TE) : TE := fun σ H Q => ta σ H fun x H1 => Q (.bl (decide (x = .non))) H1
def tNotN (ta : TE) : TE := fun σ H Q => ta σ H fun x H1 => Q (.bl (!decide (x = .non))) H1
theorem RelV.none_iff {x : V} {v : Value} (r : RelV x v) : (v == Value.none) = decide (x = .non) := by
  cases x with
  | non => cases r; rfl
  | bl _ => cases r; rfl
  | int _ => obtain ⟨t, rfl⟩ := r; rfl
  | str _ => obtain ⟨t, rfl⟩ := r; rfl
  | byt _ => obtain ⟨t, rfl⟩ := r; rfl
  | flt _ => obtain ⟨t, rfl⟩ := r; rfl
  | ref _ => cases r; rfl
  | ty _ => cases r; rfl
theorem pc_isN {j pos'} (ha : PE X a ta) : PC X .Is a (.Constant .none j pos') (tIsN ta) := by
  intro pins s σ H Q I h
  refine thn (ha pins s σ H _ I h) fun v s1 ⟨x, H1, I1, r1, q1⟩ => ?_
  exact Constant_none (is_none_gen ⟨.bl _, H1, I1, by rw [r1.none_iff]; rfl, q1⟩)
theorem pc_notN {j pos'} (ha : PE X a ta) : PC X .IsNot a (.Constant .none j pos') (tNotN ta) := by
  intro pins s σ H Q I h
  refine thn (ha pins s σ H _ I h) fun v s1 ⟨x, H1, I1, r1, q1⟩ => ?_
  exact Constant_none (isnot_none_gen ⟨.bl _, H1, I1, by rw [r1.none_iff]; rfl, q1⟩)
/-- a comparison as a value, as a test -/
def tB (t : TE) : TT := fun σ H Q => t σ H fun x H1 => ∃ c, x = .bl c ∧ Q c H1
theorem pe_cmp {op : CmpOp} {t : TE} (h : PC X op a b t) (h1 : behindInMarks op b = false := by first | exact nobehind _ (by decide) (by decide) | rfl) : PE X (.Compare a [op] [b] pos) t := fun pins s σ H Q I hw => wpAny_Compare1 (h pins s σ H Q I hw) h1
theorem pt_cmp {op : CmpOp} {t : TE} (h : PC X op a b t) (h1 : behindInMarks op b = false := by first | exact nobehind _ (by decide) (by decide) | rfl) : PT X (.Compare a [op] [b] pos) (tB t) := by
  intro pins s σ H Q I hw
  refine wpAny_isTrue_Compare1 (thn (h pins s σ H _ I hw) fun v s1 h1 => thn h1 fun u s2 h2 => thn h2 fun c s3 ⟨x, H1, I1, r1, q1⟩ => ?_) h1
  obtain ⟨d, rfl, q⟩ := q1
  cases r1
  exact wpAny_truthy_bool ⟨H1, I1, q⟩
/-- an expression whose value is a bool, as a test -/
theorem pt_val {e : Expr} {t : TE} (h : PE X e t) (he : ∀ whole, isTrue e X.env whole = (do let v ← whole; standAt e.pos; holding [v] (truthy v)) := by intro _; rfl) : PT X e (tB t) := by
  intro pins s σ H Q I hw
  refine isTrue_plain (thn (h pins s σ H _ I hw) fun v s1 ⟨x, H1, I1, r1, q1⟩ => ?_) (he _)
  obtain ⟨d, rfl, q⟩ := q1
  cases r1
  exact wpAny_truthy_bool ⟨H1, I1, q⟩

/-! ### and, or, not -/
variable {tA tB' : TT} {rest : List Expr}
def tAnd (t u : TT) : TT := fun σ H Q => t σ H fun c H1 => if c = true then u σ H1 Q else Q false H1
def tOr (t u : TT) : TT := fun σ H Q => t σ H fun c H1 => if c = true then Q true H1 else u σ H1 Q
def tNot (t : TT) : TT := fun σ H Q => t σ H fun c H1 => Q (!c) H1
theorem pw_and1 (ha : PT X a tA) : PW X (.BoolOp .And [a] pos) tA := by
  intro wh pins s σ H Q I h
  refine isTrue_and (thn (ha pins s σ H Q I h) fun c s1 e => ?_)
  cases c with
  | true => exact isTrue_and_nil e
  | false => exact e
theorem pw_or1 (ha : PT X a tA) : PW X (.BoolOp .Or [a] pos) tA := by
  intro wh pins s σ H Q I h
  refine isTrue_or (thn (ha pins s σ H Q I h) fun c s1 e => ?_)
  cases c with
  | false => exact isTrue_or_nil e
  | true => exact e
theorem pw_and (ha : PT X a tA) (hb : PW X (.BoolOp .And (b :: rest) pos) tB') : PW X (.BoolOp .And (a :: b :: rest) pos) (tAnd tA tB') := by
  intro wh pins s σ H Q I h
  refine isTrue_and (thn (ha pins s σ H _ I h) fun c s1 ⟨H1, I1, q1⟩ => ?_)
  cases c with
  | true => exact hb wh pins s1 σ H1 Q I1 q1
  | false => exact ⟨H1, I1, q1⟩
theorem pw_or (ha : PT X a tA) (hb : PW X (.BoolOp .Or (b :: rest) pos) tB') : PW X (.BoolOp .Or (a :: b :: rest) pos) (tOr tA tB') := by
  intro wh pins s σ H Q I h
  refine isTrue_or (thn (ha pins s σ H _ I h) fun c s1 ⟨H1, I1, q1⟩ => ?_)
  cases c with
  | true => exact ⟨H1, I1, q1⟩
  | false => exact hb wh pins s1 σ H1 Q I1 q1
theorem pt_not (ha : PT X a tA) : PT X (.UnaryOp .Not a pos) (tNot tA) := by
  intro pins s σ H Q I h
  exact isTrue_not (ha pins s σ H (fun c H1 => Q (!c) H1) I h)
/-- .. as values (bools) -/
def tAndV (ta tb : TE) : TE := fun σ H Q => ta σ H fun x H1 => ∃ c, x = .bl c ∧ if c = true then tb σ H1 Q else Q (.bl false) H1
def tOrV (ta tb : TE) : TE := fun σ H Q => ta σ H fun x H1 => ∃ c, x = .bl c ∧ if c = true then Q (.bl true) H1 else tb σ H1 Q
def tNotV (ta : TE) : TE := fun σ H Q => ta σ H fun x H1 => ∃ c, x = .bl c ∧ Q (.bl (!c)) H1
theorem pe_one {op} {t : TE} (h : PE X a t) : PE X (.BoolOp op [a] pos) t := fun pins s σ H Q I hw => BoolOp_one (h pins s σ H Q I hw)
theorem pe_and (ha : PE X a ta) (hb : PE X (.BoolOp .And (b :: rest) pos) tb) : PE X (.BoolOp .And (a :: b :: rest) pos) (tAndV ta tb) := by
  intro pins s σ H Q I h
  refine BoolOp_and (thn (ha pins s σ H _ I h) fun v s1 ⟨x, H1, I1, r1, q1⟩ => ?_)
  obtain ⟨c, rfl, q1⟩ := q1
  cases r1
  refine wpAny_truthy_bool ?_
  cases c with
  | true => exact hb pins s1 σ H1 Q I1 q1
  | false => exact ⟨.bl false, H1, I1, rfl, q1⟩
theorem pe_or (ha : PE X a ta) (hb : PE X (.BoolOp .Or (b :: rest) pos) tb) : PE X (.BoolOp .Or (a :: b :: rest) pos) (tOrV ta tb) := by
  intro pins s σ H Q I h
  refine BoolOp_or (thn (ha pins s σ H _ I h) fun v s1 ⟨x, H1, I1, r1, q1⟩ => ?_)
  obtain ⟨c, rfl, q1⟩ := q1
  cases r1
  refine wpAny_truthy_bool ?_
  cases c with
  | false => exact hb pins s1 σ H1 Q I1 q1
  | true => exact ⟨.bl true, H1, I1, rfl, q1⟩
theorem pe_not (ha : PE X a ta) : PE X (.UnaryOp .Not a pos) (tNotV ta) := by
  intro pins s σ H Q I h
  refine UnaryOp_ (thn (ha pins s σ H _ I h) fun v s1 ⟨x, H1, I1, r1, q1⟩ => ?_)
  obtain ⟨c, rfl, q1⟩ := q1
  cases r1
  exact not_of (wpAny_truthy_bool ⟨.bl (!c), H1, I1, rfl, q1⟩)
/-- a if t else b -/
def tIf (t : TT) (ta tb : TE) : TE := fun σ H Q => t σ H fun c H1 => if c = true then ta σ H1 Q else tb σ H1 Q
theorem pe_ifExp {c : Expr} (hc : PT X c tA) (ha : PE X a ta) (hb : PE X b tb) : PE X (.IfExp c a b pos) (tIf tA ta tb) := by
  intro pins s σ H Q I h
  refine wpAny_IfExp (thn (hc pins s σ H _ I h) fun d s1 ⟨H1, I1, q1⟩ => ?_)
  cases d with
  | true => exact ha pins s1 σ H1 Q I1 q1
  | false => exact hb pins s1 σ H1 Q I1 q1
end
end L2

namespace L2
open PySem PySem.Spec PyProof.Rows

/-! ### a list, a tuple that is read: tracked, frozen, or an object of the module -/
def SqL (K : PySem.W.Frag) (H : Hp) (a : Addr) (xs : List V) : Prop :=
  Rd H a (.lst xs) ∨
    ∃ (o : Obj) (its : Array Value) (n : Nat), K.lookup a = some o ∧ o.cls = .type "list" ∧ o.dict = none ∧ o.data = .seq its n ∧ its.size ≤ sizeLine ∧ Vals xs its.toList
def SqT (K : PySem.W.Frag) (H : Hp) (a : Addr) (xs : List V) : Prop :=
  Rd H a (.tup xs) ∨
    ∃ (o : Obj) (its : Array Value) (n : Nat), K.lookup a = some o ∧ o.cls = .type "tuple" ∧ o.data = .seq its n ∧ its.size ≤ sizeLine ∧ Vals xs its.toList
def absV : Value → Option V
  | .none => some .non
  | .bool b => some (.bl b)
  | .int i _ => some (.int i)
  | .str x _ => some (.str x)
  | .bytes b _ => some (.byt b)
  | .float b _ => some (.flt b)
  | .ref a => some (.ref a)
  | .type n => some (.ty n)
  | _ => none
theorem RelV.abs {x : V} {u : Value} (r : RelV x u) : absV u = some x := by
  cases x with
  | non => cases r; rfl
  | bl _ => cases r; rfl
  | int _ => obtain ⟨t, rfl⟩ := r; rfl
  | str _ => obtain ⟨t, rfl⟩ := r; rfl
  | byt _ => obtain ⟨t, rfl⟩ := r; rfl
  | flt _ => obtain ⟨t, rfl⟩ := r; rfl
  | ref _ => cases r; rfl
  | ty _ => cases r; rfl
theorem RelV.inj {x y : V} {u : Value} (r : RelV x u) (q : RelV y u) : x = y := Option.some.inj (r.abs.symm.trans q.abs)
theorem Vals.inj : ∀ {xs ys : List V} {us : List Value}, Vals xs us → Vals ys us → xs = ys
  | _, _, _, .nil, .nil => rfl
  | _, _, _, .cons r t, .cons r' t' => by rw [r.inj r', Vals.inj t t']
section
variable {X : Cx} {pins : List (Addr × Obj)} {σ : St} {H : Hp} {s : Shared} {a : Addr} {xs ys : List V}
theorem SqL.of {K : PySem.W.Frag} (h : H a = some (.lst xs)) : SqL K H a xs := .inl (.inl h)
theorem SqT.of {K : PySem.W.Frag} (h : H a = some (.tup xs)) : SqT K H a xs := .inl (.inl h)
theorem Inv.list (I : Inv X pins σ H s) (h : SqL X.K H a xs) : ∃ its : List Value, Vals xs its ∧ PlainL s.heap a its.toArray ∧ xs.length ≤ sizeLine := by
  rcases h with h | ⟨o, its, n, hk, hc, hd, hs, hz, r⟩
  · obtain ⟨z, its, n, r, e⟩ := h.ok I.hok
    exact ⟨its, r, ⟨_, n, e, rfl, rfl, rfl⟩, z⟩
  · refine ⟨its.toList, r, ⟨o, n, I.kIn a o hk, hc, hd, by simpa using hs⟩, ?_⟩
    have e := r.length
    simp only [Array.length_toList] at e
    omega
theorem Inv.tuple (I : Inv X pins σ H s) (h : SqT X.K H a xs) : ∃ its : List Value, Vals xs its ∧ IsTup s.heap a its.toArray ∧ xs.length ≤ sizeLine := by
  rcases h with h | ⟨o, its, n, hk, hc, hs, hz, r⟩
  · obtain ⟨z, its, r, p⟩ := h.ok I.hok
    exact ⟨its, r, p, z⟩
  · refine ⟨its.toList, r, ⟨o, I.kIn a o hk, hc, n, by simpa using hs⟩, ?_⟩
    have e := r.length
    simp only [Array.length_toList] at e
    omega
theorem Inv.list_inj (I : Inv X pins σ H s) (h : SqL X.K H a xs) (h' : SqL X.K H a ys) : xs = ys := by
  obtain ⟨its, r, ⟨o, n, e, _, _, d⟩, _⟩ := I.list h
  obtain ⟨its', r', ⟨o', n', e', _, _, d'⟩, _⟩ := I.list h'
  rw [e] at e'; cases e'
  rw [d] at d'
  injection d' with d1 _
  have : its = its' := by simpa using congrArg Array.toList d1
  subst this
  exact r.inj r'
theorem Inv.tuple_inj (I : Inv X pins σ H s) (h : SqT X.K H a xs) (h' : SqT X.K H a ys) : xs = ys := by
  obtain ⟨its, r, ⟨o, e, _, n, d⟩, _⟩ := I.tuple h
  obtain ⟨its', r', ⟨o', e', _, n', d'⟩, _⟩ := I.tuple h'
  rw [e] at e'; cases e'
  rw [d] at d'
  injection d' with d1 _
  have : its = its' := by simpa using congrArg Array.toList d1
  subst this
  exact r.inj r'
end

/-! ### another wish about exceptions -/
abbrev Cx.wish (X : Cx) (E : Value → Shared → Prop) : Cx := { X with xe := E }
/-- no exception leaves -/
abbrev Cx.nox (X : Cx) : Cx := X.wish fun _ _ => False
theorem Cx.Ok.wish {X : Cx} (ok : X.Ok) (E : Value → Shared → Prop) : (X.wish E).Ok :=
  ⟨ok.mod, ok.kind, ok.glob, ok.blt, ok.above, ok.inj, ok.has, ok.cab, ok.hd, ok.frames, ok.stk, ok.exf, ok.bs, ok.bsz, ok.noex, ok.exfs, ok.funs, ok.frf⟩
theorem Cx.Ok.unwish {X : Cx} {E : Value → Shared → Prop} (ok : (X.wish E).Ok) : X.Ok :=
  ⟨ok.mod, ok.kind, ok.glob, ok.blt, ok.above, ok.inj, ok.has, ok.cab, ok.hd, ok.frames, ok.stk, ok.exf, ok.bs, ok.bsz, ok.noex, ok.exfs, ok.funs, ok.frf⟩
section
variable {X : Cx} {pins : List (Addr × Obj)} {σ : St} {H : Hp} {s : Shared} {E : Value → Shared → Prop}
theorem Inv.wish (I : Inv X pins σ H s) (E : Value → Shared → Prop) : Inv (X.wish E) pins σ H s := ⟨I.ok.wish E, I.os, I.bare, I.base, I.loc, I.cell, I.free, I.freeC, I.pin, I.hok, I.len⟩
theorem Inv.unwish (I : Inv (X.wish E) pins σ H s) : Inv X pins σ H s := ⟨I.ok.unwish, I.os, I.bare, I.base, I.loc, I.cell, I.free, I.freeC, I.pin, I.hok, I.len⟩
theorem SP.unwish {D : Ends} {f : Flow} {s' : Shared} (h : SP (X.wish E) pins D f s') : SP X pins D f s' := by
  cases f with
  | next => obtain ⟨σ', H', I, q⟩ := h; exact ⟨σ', H', I.unwish, q⟩
  | brk => obtain ⟨σ', H', I, q⟩ := h; exact ⟨σ', H', I.unwish, q⟩
  | cont => obtain ⟨σ', H', I, q⟩ := h; exact ⟨σ', H', I.unwish, q⟩
  | ret u => obtain ⟨v, σ', H', I, r, q⟩ := h; exact ⟨v, σ', H', I.unwish, r, q⟩
theorem PE.nox {e : Expr} {t : TE} (h : PE X.nox e t) : PE X e t := fun pins s σ H Q I hw =>
  wpAny_mono (h pins s σ H Q (I.wish _) hw) (fun _ _ ⟨v, H', I', r, q⟩ => ⟨v, H', I'.unwish, r, q⟩) fun _ _ z => False.elim z
theorem PT.nox {e : Expr} {t : TT} (h : PT X.nox e t) : PT X e t := fun pins s σ H Q I hw =>
  wpAny_mono (h pins s σ H Q (I.wish _) hw) (fun _ _ ⟨H', I', q⟩ => ⟨H', I'.unwish, q⟩) fun _ _ z => False.elim z
theorem PSs.nox {st : List Stmt} {t : TS} (h : PSs X.nox st t) : PSs X st t := fun pins s σ H D I hw =>
  wpAny_mono (h pins s σ H D (I.wish _) hw) (fun _ _ q => q.unwish) fun _ _ z => False.elim z
end

/-! ### blocks and small statements -/
section
variable {X : Cx} {st : Stmt} {rest : List Stmt} {t u : TS} {e : Expr} {te : TE} {pos : Pos}
def tNext : TS := fun D σ H => D.nx σ H
def tSeq (t u : TS) : TS := fun D σ H => t { D with nx := u D } σ H
theorem pss_nil : PSs X [] tNext := fun _ _ σ H _ I h => wpAny_execs_nil ⟨σ, H, I, h⟩
theorem pss_cons (h1 : PS X st t) (h2 : PSs X rest u) : PSs X (st :: rest) (tSeq t u) := by
  intro pins s σ H D I h
  refine wpAny_execs_cons (thn (h1 pins s σ H { D with nx := u D } I h) fun f s1 q => ?_)
  cases f with
  | next =>
    obtain ⟨σ', H', I', q⟩ := q
    exact h2 pins s1 σ' H' D I' q
  | ret v => exact q
  | brk => exact q
  | cont => exact q
theorem pss_one (h1 : PS X st t) : PSs X [st] t := by
  intro pins s σ H D I h
  refine wpAny_execs_cons (thn (h1 pins s σ H D I h) fun f s1 q => ?_)
  cases f with
  | next => exact wpAny_execs_nil q
  | ret v => exact q
  | brk => exact q
  | cont => exact q
def tBreak : TS := fun D σ H => D.bk σ H
def tCont : TS := fun D σ H => D.ct σ H
theorem ps_pass : PS X (.Pass pos) tNext := fun _ _ σ H _ I h => wpAny_Pass ⟨σ, H, I, h⟩
theorem ps_break : PS X (.Break pos) tBreak := fun _ _ σ H _ I h => wpAny_Break ⟨σ, H, I, h⟩
theorem ps_continue : PS X (.Continue pos) tCont := fun _ _ σ H _ I h => wpAny_Continue ⟨σ, H, I, h⟩
/-- in a def's body nothing is shown -/
theorem Inv.quiet {pins : List (Addr × Obj)} {σ : St} {H : Hp} {s : Shared} (I : Inv X pins σ H s) : interactive X.env = false := by simp [interactive, I.ok.kind]
/-- a docstring -/
theorem ps_doc {x j pos pos'} : PS X (.Expr (.Constant (.str x) j pos) pos') tNext := fun _ s σ H _ I h => wpAny_Expr (Calls.Constant_str (show SP X _ _ .next { s with toks := s.toks + 1 } from ⟨σ, H, I.tok _, h⟩)) I.quiet
/-- an expression whose value is dropped -/
def tDrop (te : TE) : TS := fun D σ H => te σ H fun _ H1 => D.nx σ H1
theorem ps_expr (he : PE X e te) (hs : swapsWith e none pos.line X.env = pure false := by rfl) : PS X (.Expr e pos) (tDrop te) := by
  intro pins s σ H D I h
  exact wpAny_Expr_any (thn (he pins s σ H _ I h) fun v s1 ⟨x, H1, I1, r1, q1⟩ => ⟨σ, H1, I1, q1⟩) I.quiet hs
def tRet (te : TE) : TS := fun D σ H => te σ H D.rt
theorem ps_ret (he : PE X e te) : PS X (.Return (some e) pos) (tRet te) := by
  intro pins s σ H D I h
  exact wpAny_Return_some (thn (he pins s σ H _ I h) fun v s1 ⟨x, H1, I1, r1, q1⟩ => ⟨x, σ, H1, I1, r1, q1⟩)
def tRetN : TS := fun D _ H => D.rt .non H
theorem ps_retN : PS X (.Return none pos) tRetN := fun _ _ σ H _ I h => wpAny_Return_none ⟨.non, σ, H, I, rfl, h⟩
def tIfS (c : TT) (t u : TS) : TS := fun D σ H => c σ H fun b H1 => if b = true then t D σ H1 else u D σ H1
theorem ps_if {c : Expr} {a b : List Stmt} {tc : TT} (hc : PT X c tc) (ha : PSs X a t) (hb : PSs X b u) : PS X (.If c a b pos) (tIfS tc t u) := by
  intro pins s σ H D I h
  refine wpAny_If (thn (hc pins s σ H _ I h) fun d s1 ⟨H1, I1, q1⟩ => ?_)
  cases d with
  | true => exact ha pins s1 σ H1 D I1 q1
  | false => exact hb pins s1 σ H1 D I1 q1
/-- code that the proof never comes to -/
def tNever : TS := fun _ _ _ => False
theorem ps_never : PS X st tNever := fun _ _ _ _ _ _ h => h.elim
theorem pss_never {sts : List Stmt} : PSs X sts tNever := fun _ _ _ _ _ _ h => h.elim
end

/-! ### targets -/
abbrev TG := V → St → Hp → (St → Hp → Prop) → Prop
abbrev TGs := List V → St → Hp → (St → Hp → Prop) → Prop
def PG (X : Cx) (target : Expr) (t : TG) : Prop :=
  ∀ (pins : List (Addr × Obj)) (s : Shared) (σ : St) (H : Hp) (v : V) (u : Value) (Q : St → Hp → Prop), Inv X pins σ H s → RelV v u → t v σ H Q →
    wpAny (model X.prog X.w) X.A (assign target X.env u) (fun _ s' => ∃ σ' H', Inv X pins σ' H' s' ∧ Q σ' H') X.xe s
/-- several targets, one after another -/
def PGs (X : Cx) (ts : List Expr) (t : TGs) : Prop :=
  ∀ (pins : List (Addr × Obj)) (s : Shared) (σ : St) (H : Hp) (vs : List V) (us : List Value) (Q : St → Hp → Prop), Inv X pins σ H s → Vals vs us → t vs σ H Q →
    wpAny (model X.prog X.w) X.A (assignInOrder ((assignEach ts X.env).map (·.2)) us) (fun _ s' => ∃ σ' H', Inv X pins σ' H' s' ∧ Q σ' H') X.xe s
/-- o[i] = v, by values -/
abbrev TSet := V → V → V → Hp → (Hp → Prop) → Prop
def PSet (X : Cx) (t : TSet) : Prop :=
  ∀ (pins : List (Addr × Obj)) (s : Shared) (σ : St) (H : Hp) (o i v : V) (ov iv u : Value) (Q : Hp → Prop), Inv X pins σ H s → RelV o ov → RelV i iv → RelV v u → t o i v H Q →
    wpAny (model X.prog X.w) X.A (setItem ov iv u) (fun _ s' => ∃ H', Inv X pins σ H' s' ∧ Q H') X.xe s
/-- a op= b, by values -/
abbrev TIp := V → V → Hp → VK → Prop
def PIp (X : Cx) (op : Operator) (t : TIp) : Prop :=
  ∀ (pins : List (Addr × Obj)) (s : Shared) (σ : St) (H : Hp) (x y : V) (v u : Value) (Q : VK), Inv X pins σ H s → RelV x v → RelV y u → t x y H Q →
    wpAny (model X.prog X.w) X.A (inplaceOp op v u) (EP X pins σ Q) X.xe s
section
variable {X : Cx} {pos : Pos}
def gName (i : Nat) : TG := fun v σ H Q => Q (σ.set i (some v)) H
theorem pg_name {i : Nat} {x : Str} (hN : X.N.Nodup) (hi : X.N[i]? = some x) (hx : Loc X.env.scope x) (hf : X.fn x = true ∨ X.env.scope.names.lookup x = some .local := by first | exact .inl rfl | exact .inr rfl | assumption) : PG X (.Name x pos) (gName i) := by
  intro pins s σ H v u Q I r h
  exact wpAny_assign_Name (store_ok I hN hi hx r (fun s' I' => ⟨_, H, I', h⟩) hf)
def gNil : TGs := fun vs σ H Q => vs = [] ∧ Q σ H
def gCons (t : TG) (u : TGs) : TGs := fun vs σ H Q => ∃ v r, vs = v :: r ∧ t v σ H fun σ' H' => u r σ' H' Q
theorem pgs_nil : PGs X [] gNil := by
  intro pins s σ H vs us Q I r h
  obtain ⟨e, h⟩ := h
  subst e
  cases r
  exact assignInOrder_nil ⟨σ, H, I, h⟩
theorem pgs_cons {e : Expr} {es : List Expr} {t : TG} {u : TGs} (h1 : PG X e t) (h2 : PGs X es u)
    (hs : (assignEach (e :: es) X.env).map (·.2) = assign e X.env :: (assignEach es X.env).map (·.2) := by rfl) : PGs X (e :: es) (gCons t u) := by
  intro pins s σ H vs us Q I r h
  obtain ⟨v, vr, e1, h⟩ := h
  subst e1
  cases r with
  | cons r rr =>
    rw [hs]
    refine assignInOrder_cons (thn (h1 pins s σ H _ _ _ I r h) fun _ s1 ⟨σ1, H1, I1, q1⟩ => ?_)
    exact h2 pins s1 σ1 H1 _ _ Q I1 rr q1
/-- (a, b, ..) = a tuple of that length -/
def gTup (K : PySem.W.Frag) (n : Nat) (t : TGs) : TG := fun v σ H Q => ∃ a xs, v = .ref a ∧ SqT K H a xs ∧ xs.length = n ∧ t xs σ H Q
theorem pg_tup {es : List Expr} {k : Nat} {t : TGs} {n : Nat} (hc : X.calm = true) (h : PGs X es t)
    (hn : (assignEach es X.env).length = n := by rfl) (hst : (assignEach es X.env).findIdx? (·.1) = none := by rfl) : PG X (.Tuple es k pos) (gTup X.K n t) := by
  intro pins s σ H v u Q I r hw
  obtain ⟨a, xs, e1, hq, hl, hw⟩ := hw
  subst e1
  cases r
  obtain ⟨its, rv, ht, hz⟩ := I.tuple hq
  refine assign_Tuple_tuple (I.ok.hd hc) ht (by simp [hn, ← hl, rv.length]) hst fun h' hx => ?_
  have I1 : Inv X pins σ H { s with heap := h' } := I.kept (t' := s.toks) fun b o e => hx b o (Nat.ne_of_lt (Heap.lt_size e)) e
  exact h pins _ σ H xs _ Q I1 (by simpa using rv) hw
/-- o[i] = .. -/
def gSub (to ti : TE) (t : TSet) : TG := fun v σ H Q => to σ H fun o H1 => ti σ H1 fun i H2 => t o i v H2 fun H3 => Q σ H3
theorem pg_sub {o i : Expr} {to ti : TE} {t : TSet} (ho : PE X o to) (hi : PE X i ti) (hs : PSet X t)
    (ha : ∀ v, assign (.Subscript o i pos) X.env v = (do
      let ov ← holding [v] (eval o X.env)
      let iv ← holding [v, ov] (eval i X.env)
      standAt pos
      holding [v, ov, iv] (setItem ov iv v)
      release [v, ov, iv] []) := by intro _; rfl) : PG X (.Subscript o i pos) (gSub to ti t) := by
  intro pins s σ H v u Q I r h
  rw [ha]
  refine wpAny_bind (wpAny_holding (thn (ho pins s σ H _ I h) fun ov s1 ⟨x, H1, I1, r1, q1⟩ => ?_))
  refine wpAny_bind (wpAny_holding (thn (hi pins s1 σ H1 _ I1 q1) fun iv s2 ⟨y, H2, I2, r2, q2⟩ => ?_))
  refine wpAny_bind (wpAny_standAt (wpAny_bind (wpAny_holding (thn (hs pins s2 σ H2 x y v ov iv u _ I2 r1 r2 r q2) fun _ s3 ⟨H3, I3, q3⟩ => ?_))))
  exact wpAny_release ⟨σ, H3, I3, q3⟩
/-- target = value -/
def tAsg (te : TE) (g : TG) : TS := fun D σ H => te σ H fun x H1 => g x σ H1 D.nx
theorem ps_asg {tg e : Expr} {te : TE} {g : TG} (he : PE X e te) (hg : PG X tg g) (hs : swapsWithSole [tg] e pos.line X.env = pure false := by rfl) (hw : swappedStores [tg] e X.env = pure none := by rfl)
    (h1 : (assignEach [tg] X.env).map (·.2) = [assign tg X.env] := by rfl) : PS X (.Assign [tg] e pos) (tAsg te g) := by
  intro pins s σ H D I h
  refine wpAny_Assign_stores (thn (he pins s σ H _ I h) fun v s1 ⟨x, H1, I1, r1, q1⟩ => ?_) hs hw
  rw [h1]
  exact thn (hg pins s1 σ H1 x v _ I1 r1 q1) fun _ s2 q => q
/-- name = value -/
theorem ps_set {i : Nat} {x : Str} {e : Expr} {te : TE} {pos' : Pos} (hN : X.N.Nodup) (hi : X.N[i]? = some x) (hx : Loc X.env.scope x) (he : PE X e te) (hs : swapsWith e (some (.Name x pos')) pos.line X.env = pure false := by rfl) (hf : X.fn x = true ∨ X.env.scope.names.lookup x = some .local := by first | exact .inl rfl | exact .inr rfl | assumption) :
    PS X (.Assign [.Name x pos'] e pos) (tAsg te (gName i)) := by
  intro pins s σ H D I h
  refine wpAny_Assign_Name (thn (he pins s σ H _ I h) fun v s1 ⟨y, H1, I1, r1, q1⟩ => ?_) hs
  exact store_ok I1 hN hi hx r1 (fun s2 I2 => ⟨_, H1, I2, q1⟩) hf
/-- a, b = x, y with plain local names: stored from the right; the pair itself is not tracked (the opening rows as in PyProof/Rows/TupAssign.lean:23) -/
def tPar (i j : Nat) (ta : TA) : TS := fun D σ H => ta σ H fun vs H1 => ∃ v w, vs = [v, w] ∧ D.nx ((σ.set i (some v)).set j (some w)) H1
theorem ps_par {i j : Nat} {x y : Str} {a b : Expr} {ta : TA} {px py pt : Pos} {kt k2 pt2} (hc : X.calm = true) (hN : X.N.Nodup) (hi : X.N[i]? = some x) (hj : X.N[j]? = some y) (hij : i ≠ j)
    (hx : X.env.scope.names.lookup x = some .local) (hy : X.env.scope.names.lookup y = some .local) (ha : PA X [a, b] ta)
    (hw : swappedStores [.Tuple [.Name x px, .Name y py] kt pt] (.Tuple [a, b] k2 pt2) X.env = pure (some [x, y]))
    (hs : swapsWithSole [.Tuple [.Name x px, .Name y py] kt pt] (.Tuple [a, b] k2 pt2) pos.line X.env = pure false := by rfl) :
    PS X (.Assign [.Tuple [.Name x px, .Name y py] kt pt] (.Tuple [a, b] k2 pt2) pos) (tPar i j ta) := by
  intro pins s σ H D I h
  rw [exec_Assign_arm]
  refine wpAny_bind (wpAny_standAt ?_)
  rw [hs]
  refine wpAny_bind (wpAny_pure ?_)
  rw [if_neg (by decide)]
  refine wpAny_bind (Tuple_ (thn (ha _ pins s σ H _ I h) fun us s1 ⟨vs, H1, I1, r1, q1⟩ => ?_))
  obtain ⟨v, w, e1, q1⟩ := q1
  subst e1
  obtain ⟨u1, u2, rfl, rv, rw'⟩ : ∃ u1 u2, us = [u1, u2] ∧ RelV v u1 ∧ RelV w u2 := by
    cases r1 with
    | cons p q =>
      cases q with
      | cons p' q' =>
        cases q'
        exact ⟨_, _, rfl, p, p'⟩
  refine wpAny_newObj_type ?_ (by show 2 ≤ sizeLine; decide)
  have I2 : Inv X pins σ H1 { s1 with heap := s1.heap.push { cls := .type "tuple", data := .seq [u1, u2].toArray } } := I1.kept (t' := s1.toks) fun b o e => Heap.get?_push_of_some _ e
  rw [hw]
  refine wpAny_bind (wpAny_pure ?_)
  show wpAny (model X.prog X.w) X.A (do rule "assign.swapped-stores"; let items ← unpackItems (.ref s1.heap.objs.size) 2 none; assignInOrder [fun v => bindName X.env y v, fun v => bindName X.env x v] items.reverse; pure Flow.next) _ _ _
  refine wpAny_bind (wpAny_rule (wpAny_bind (unpackItems_tuple (items := #[u1, u2]) (I.ok.hd hc) (IsTup.new s1.heap _) fun h' hx' => ?_)))
  have I3 := I2.kept (h' := h') (t' := s1.toks) fun b o e => hx' b o (Nat.ne_of_lt (Heap.lt_size e)) e
  show wpAny _ _ (assignInOrder [fun v => bindName X.env y v, fun v => bindName X.env x v] [u2, u1] >>= fun _ => pure Flow.next) _ _ _
  refine wpAny_bind (assignInOrder_cons (wpAny_bindName (store_ok I3 hN hj (.inl hy) rw' (fun s2 I4 => ?_) (.inr hy))))
  refine assignInOrder_cons (wpAny_bindName (store_ok I4 hN hi (.inl hx) rv (fun s3 I5 => assignInOrder_nil (wpAny_pure ?_)) (.inr hx)))
  rw [List.set_comm _ _ (Ne.symm hij)] at I5
  exact ⟨_, H1, I5, q1⟩
/-- name op= e -/
def tAug (i : Nat) (te : TE) (ti : TIp) : TS := fun D σ H => ∃ x, σ[i]? = some (some x) ∧ te σ H fun y H1 => ti x y H1 fun z H2 => D.nx (σ.set i (some z)) H2
theorem ps_aug {i : Nat} {x : Str} {e : Expr} {te : TE} {op : Operator} {ti : TIp} {pos' : Pos} (hN : X.N.Nodup) (hi : X.N[i]? = some x) (hx : Loc X.env.scope x) (he : PE X e te) (ho : PIp X op ti) (hf : X.fn x = true ∨ X.env.scope.names.lookup x = some .local := by first | exact .inl rfl | exact .inr rfl | assumption) :
    PS X (.AugAssign (.Name x pos') op e pos) (tAug i te ti) := by
  intro pins s σ H D I h
  obtain ⟨v, e1, h⟩ := h
  obtain ⟨m, hn, hl⟩ := I.loc
  have vis : Vis X.env.scope x := by rcases hx with k | k; exact .inl k; exact .inr (.inl k)
  obtain ⟨u, r, l⟩ := hl i x v hi e1 vis
  refine wpAny_AugAssign_Name ?_
  have go : wpAny (model X.prog X.w) X.A (eval e X.env) (fun w s₂ => wpAny (model X.prog X.w) X.A (inplaceOp op u w) (fun r s₃ => wpAny (model X.prog X.w) X.A (storeName X.env x r) (fun _ => SP X pins D .next) X.xe s₃) X.xe s₂) X.xe s := by
    refine thn (he pins s σ H _ I h) fun w s1 ⟨y, H1, I1, r1, q1⟩ => ?_
    refine thn (ho pins s1 σ H1 v y u w _ I1 r r1 q1) fun z s2 ⟨zv, H2, I2, r2, q2⟩ => ?_
    exact store_ok I2 hN hi hx r2 (fun s3 I3 => ⟨_, H2, I3, q2⟩) hf
  rcases l with ⟨hk, hm⟩ | ⟨hk, c, hc, hcell⟩
  · exact wpAny_loadName_local I.ok.kind hk hn hm go
  · rcases hk with hk | hk
    · exact wpAny_loadName_cell I.ok.kind hk hc hcell go
    · rcases hx with k | k
      · have : X.env.scope.names.lookup x = some .free := hk
        rw [k] at this; cases this
      · have : X.env.scope.names.lookup x = some .free := hk
        rw [k] at this; cases this
/-- o[i] op= e -/
def tAugS (to ti te : TE) (tget : V → V → Hp → VK → Prop) (tip : TIp) (tset : TSet) : TS := fun D σ H => to σ H fun o H1 => ti σ H1 fun i H2 => tget o i H2 fun x H3 => te σ H3 fun y H4 => tip x y H4 fun z H5 => tset o i z H5 fun H6 => D.nx σ H6
/-- o[i], by values -/
def PGet (X : Cx) (t : V → V → Hp → VK → Prop) : Prop :=
  ∀ (pins : List (Addr × Obj)) (s : Shared) (σ : St) (H : Hp) (o i : V) (ov iv : Value) (Q : VK), Inv X pins σ H s → RelV o ov → RelV i iv → t o i H Q →
    wpAny (model X.prog X.w) X.A (getItem ov iv) (EP X pins σ Q) X.xe s
theorem ps_augS {o i e : Expr} {to ti te : TE} {tget : V → V → Hp → VK → Prop} {tip : TIp} {tset : TSet} {op : Operator} {tpos : Pos} (ho : PE X o to) (hi : PE X i ti) (hg : PGet X tget) (he : PE X e te) (hp : PIp X op tip) (hs : PSet X tset)
    (ha : ∀ ov iv new, augStore i ov iv new = (do holding [new, ov, iv] (setItem ov iv new); release [new, ov, iv] []; pure .next) := by intros; rfl) : PS X (.AugAssign (.Subscript o i tpos) op e pos) (tAugS to ti te tget tip tset) := by
  intro pins s σ H D I h
  refine wpAny_AugAssign_SubscriptAny (thn (ho pins s σ H _ I h) fun ov s1 ⟨x1, H1, I1, r1, q1⟩ => ?_) ha
  refine thn (hi pins s1 σ H1 _ I1 q1) fun iv s2 ⟨x2, H2, I2, r2, q2⟩ => ?_
  refine thn (hg pins s2 σ H2 x1 x2 ov iv _ I2 r1 r2 q2) fun old s3 ⟨x3, H3, I3, r3, q3⟩ => ?_
  refine thn (he pins s3 σ H3 _ I3 q3) fun v s4 ⟨x4, H4, I4, r4, q4⟩ => ?_
  refine thn (hp pins s4 σ H4 x3 x4 old v _ I4 r3 r4 q4) fun new s5 ⟨x5, H5, I5, r5, q5⟩ => ?_
  exact thn (hs pins s5 σ H5 x1 x2 x5 ov iv new _ I5 r1 r2 r5 q5) fun _ s6 ⟨H6, I6, q6⟩ => ⟨σ, H6, I6, q6⟩
/-- ints -/
def ipI (f : Int → Int → Int) : TIp := fun x y H Q => ∃ i j, x = .int i ∧ y = .int j ∧ Q (.int (f i j)) H
theorem ip_add : PIp X .Add (ipI fun i j => i + j) := by
  intro pins s σ H x y v u Q I r1 r2 h
  obtain ⟨i, j, e1, e2, q⟩ := h
  subst e1; subst e2
  obtain ⟨t, rfl⟩ := r1
  obtain ⟨t', rfl⟩ := r2
  exact iadd_int ⟨.int _, H, I.tok _, ⟨_, rfl⟩, q⟩
theorem ip_sub : PIp X .Sub (ipI fun i j => i - j) := by
  intro pins s σ H x y v u Q I r1 r2 h
  obtain ⟨i, j, e1, e2, q⟩ := h
  subst e1; subst e2
  obtain ⟨t, rfl⟩ := r1
  obtain ⟨t', rfl⟩ := r2
  exact isub_int ⟨.int _, H, I.tok _, ⟨_, rfl⟩, q⟩
end

/-! ### while -/
section
variable {X : Cx} {pos : Pos}
/-- the invariant W with its measure -/
def tWhile (c : TT) (tb : TS) : TS := fun D σ H => ∃ W : Nat → St → Hp → Prop, (∃ m, W m σ H) ∧ ∀ m σ H, W m σ H →
  c σ H fun b H1 => if b = true then ∃ N : St → Hp → Prop, (∀ σ' H', N σ' H' → ∃ m', m' < m ∧ W m' σ' H') ∧ tb { D with nx := N, ct := N, bk := D.nx } σ H1 else D.nx σ H1
theorem ps_while {c : Expr} {body : List Stmt} {tc : TT} {tb : TS} (hp : PassesOwn (model X.prog X.w) X.A X.env X.xe) (hc : PT X c tc) (hb : PSs X body tb) : PS X (.While c body [] pos) (tWhile tc tb) := by
  intro pins s σ H D I h
  obtain ⟨W, ⟨m0, w0⟩, turn⟩ := h
  refine wpAny_While (codeAny_whileLoop (fun n s' => ∃ σ' H', Inv X pins σ' H' s' ∧ W n σ' H') ?_ m0 ⟨σ, H, I, w0⟩)
  rintro n s1 ⟨σ1, H1, I1, w1⟩
  refine wpAny_passesOwn hp (thn (hc pins s1 σ1 H1 _ I1 (turn n σ1 H1 w1)) fun b s2 ⟨H2, I2, q2⟩ => ?_)
  cases b with
  | true =>
    obtain ⟨N, hN, q2⟩ := q2
    rw [if_pos rfl]
    refine wpAny_passesOwn hp (thn (hb pins s2 σ1 H2 _ I2 q2) fun f s3 q3 => ?_)
    cases f with
    | next =>
      obtain ⟨σ3, H3, I3, n3⟩ := q3
      obtain ⟨m', hm, w3⟩ := hN σ3 H3 n3
      exact ⟨m', hm, σ3, H3, I3, w3⟩
    | cont =>
      obtain ⟨σ3, H3, I3, n3⟩ := q3
      obtain ⟨m', hm, w3⟩ := hN σ3 H3 n3
      exact ⟨m', hm, σ3, H3, I3, w3⟩
    | brk => exact q3
    | ret v => exact q3
  | false =>
    rw [if_neg Bool.false_ne_true]
    exact wpAny_execs_nil ⟨σ1, H2, I2, q2⟩
end

/-! ### what a loop or a comprehension walks -/
/-- at turn i: it yields x (the heap may grow), or it stops -/
structure It where
  go : Nat → Hp → Prop
  yld : Nat → Hp → V → Hp → Prop
  stop : Nat → Hp → Prop
/-- the iterator's own objects may turn: they are not the frame's, not pinned, younger than the entry (or a comprehension's own) -/
def FpOk (X : Cx) (pins : List (Addr × Obj)) (H : Hp) (b : Addr) : Prop :=
  H b = none ∧ b ≠ X.env.locals ∧ b ∉ X.fs ∧ (b ∈ X.ex ∨ X.s₀.heap.objs.size ≤ b) ∧ (∀ x c, X.env.cells.lookup x = some c → c ≠ b) ∧ ∀ p ∈ X.pn ++ pins, p.1 ≠ b
theorem Inv.fpOk {X : Cx} {pins : List (Addr × Obj)} {σ : St} {H H' : Hp} {s : Shared} {b : Addr} (I : Inv X pins σ H s) (hb : s.heap.objs.size ≤ b) (hn : H' b = none) : FpOk X pins H' b := by
  refine ⟨hn, Nat.ne_of_gt (Nat.lt_of_lt_of_le I.lt hb), I.nofs hb, .inr (Nat.le_trans I.sz hb), fun x c e z => ?_, fun p hp z => ?_⟩
  · obtain ⟨v, q⟩ := I.cell x c e
    exact absurd (Nat.lt_of_lt_of_le q.lt (by rw [z]; exact hb)) (Nat.lt_irrefl _)
  · exact absurd (Nat.lt_of_lt_of_le (Heap.lt_size (I.pin p hp).1) (by rw [z]; exact hb)) (Nat.lt_irrefl _)
structure Turn (P : Program) (w : World) (K : PySem.W.Frag) (tg : Expr) (J : It) (fp : List Addr) (it : Addr) (tn : Nat → Heap → Prop) : Prop where
  mem : it ∈ fp
  obj : ∀ i h, tn i h → ∀ b ∈ fp, ∃ o, h.get? b = some o ∧ ∀ v, o.data ≠ .cell v
  keep : ∀ i h h', tn i h → (∀ b ∈ fp, ∀ o, h.get? b = some o → h'.get? b = some o) → tn i h'
  item : ∀ (X : Cx), X.prog = P → X.w = w → X.K = K → X.calm = true → ∀ (i : Nat) (pins : List (Addr × Obj)) (s : Shared) (σ : St) (H : Hp) (E : Value → Shared → Prop), Inv X pins σ H s → (∀ b ∈ fp, FpOk X pins H b) → tn i s.heap → J.go i H →
    wpAny (model P w) X.A (pyNext (.ref it)) (fun r s1 => ∃ u, r = some u ∧
      wpAny (model P w) X.A (letOwnedTupleGo tg (.ref it) u) (fun _ s2 => ∃ x H', Inv X pins σ H' s2 ∧ RelV x u ∧ J.yld i H x H' ∧ tn (i + 1) s2.heap ∧ ∀ b ∈ fp, H' b = none) E s1) E s
  done : ∀ (X : Cx), X.prog = P → X.w = w → X.K = K → X.calm = true → ∀ (i : Nat) (pins : List (Addr × Obj)) (s : Shared) (σ : St) (H : Hp) (E : Value → Shared → Prop), Inv X pins σ H s → (∀ b ∈ fp, FpOk X pins H b) → tn i s.heap → J.stop i H →
    wpAny (model P w) X.A (pyNext (.ref it)) (fun r s1 => r = none ∧ Inv X pins σ H s1) E s
  self : ∀ (A : Around) (i : Nat) (s : Shared) (Q : Value → Shared → Prop) (E : Value → Shared → Prop), tn i s.heap → Q (.ref it) s → wpAny (model P w) A (pyIter (.ref it)) Q E s
abbrev TI := St → Hp → (It → Hp → Prop) → Prop
/-- an iterator has come -/
def PIE (X : Cx) (pins : List (Addr × Obj)) (σ : St) (tg : Expr) (R : It → Hp → Prop) (itv : Value) (s2 : Shared) : Prop :=
  ∃ (it : Addr) (fp : List Addr) (tn : Nat → Heap → Prop) (J : It) (H' : Hp), itv = .ref it ∧ Inv X pins σ H' s2 ∧ Turn X.prog X.w X.K tg J fp it tn ∧ tn 0 s2.heap ∧ (∀ b ∈ fp, FpOk X pins H' b) ∧ R J H'
def PI (X : Cx) (tg iter : Expr) (wi : TI) : Prop :=
  ∀ (pins : List (Addr × Obj)) (s : Shared) (σ : St) (H : Hp) (R : It → Hp → Prop), Inv X pins σ H s → wi σ H R →
    wpAny (model X.prog X.w) X.A (eval iter X.env) (fun v s1 => wpAny (model X.prog X.w) X.A (pyIter v) (PIE X pins σ tg R) X.xe s1) X.xe s

/-- the step ahead of the store is nothing for an iterator that keeps no tuple -/
theorem go_of {M : Model} {A : Around} {E : Value → Shared → Prop} {s : Shared} {tg : Expr} {it : Addr} {u : Value} {o : Obj} {n : String} {vs : Array Value} {Q : Unit → Shared → Prop} (ho : s.heap.get? it = some o) (hc : o.cls = .type n) (hd : o.data = .fields vs)
    (hn : ["enumerate", "zip", "dict_itemiterator", "dict_reverseitemiterator", "odict_iterator", "itertools.zip_longest", "itertools.pairwise"].contains n = false) (hQ : Q () s) : wpAny M A (letOwnedTupleGo tg (.ref it) u) Q E s := by
  unfold letOwnedTupleGo
  cases tg <;> first
    | exact wpAny_pure hQ
    | (cases u <;> first
        | exact wpAny_pure hQ
        | (refine wpAny_bind (wpAny_load ho ?_)
           rw [hc, hd]
           show wpAny M A (if (["enumerate", "zip", "dict_itemiterator", "dict_reverseitemiterator", "odict_iterator", "itertools.zip_longest", "itertools.pairwise"].contains n && vs[0]? == some (rawInt _)) = true then _ else _) Q E s
           rw [if_neg (by intro h; rw [hn, Bool.false_and] at h; cases h)]
           exact wpAny_pure hQ))

/-- the list at a, as it stands at each turn (a loop may append to it) -/
def Itl (K : PySem.W.Frag) (a : Addr) : It :=
  ⟨fun i H => ∃ xs x, SqL K H a xs ∧ xs[i]? = some x, fun i H x H' => H' = H ∧ ∀ xs, SqL K H a xs → xs[i]? = some x, fun i H => ∃ xs, SqL K H a xs ∧ xs.length ≤ i⟩
def Itt (K : PySem.W.Frag) (a : Addr) : It :=
  ⟨fun i H => ∃ xs x, SqT K H a xs ∧ xs[i]? = some x, fun i H x H' => H' = H ∧ ∀ xs, SqT K H a xs → xs[i]? = some x, fun i H => ∃ xs, SqT K H a xs ∧ xs.length ≤ i⟩
/-- lo, lo + 1, .. (n of them) -/
def Itr (lo : Int) (n : Nat) : It := ⟨fun i _ => i < n, fun i H x H' => H' = H ∧ x = .int (lo + i), fun i _ => n ≤ i⟩
theorem turn_list {P : Program} {w : World} {K : PySem.W.Frag} {tg : Expr} (a it : Addr) : Turn P w K tg (Itl K a) [it] it (fun i h => h.IsListIter it a i) where
  mem := by simp
  obj := fun i h st b hb => by
    have e : b = it := by simpa using hb
    subst e
    obtain ⟨o, e, c, d⟩ := st
    exact ⟨o, e, fun v z => by rw [d] at z; cases z⟩
  keep := fun i h h' st k => st.at fun o e => k it (by simp) o e
  item := by
    intro X hP hw hK hc i pins s σ H E I hf st hg
    subst hP hw hK
    obtain ⟨xs, x, hq, hx⟩ := hg
    obtain ⟨its, rv, p, hz⟩ := I.list hq
    obtain ⟨u, hu, ru⟩ := rv.get hx
    obtain ⟨f0, f1, f2, f3, f4, f5⟩ := hf it (by simp)
    refine wpAny_pyNext_list_item st p.isList (x := u) (by simpa using hu) fun h' st' sb => ?_
    have I1 : Inv X pins σ H { s with heap := h' } := I.turned (t' := s.toks) (fun b o hb e => (sb.2 b hb).trans e) f0 f1 f3 f4 f5
    obtain ⟨o, e, c, d⟩ := id st'
    exact ⟨u, rfl, go_of (s := { s with heap := h' }) e c d (by decide) ⟨x, H, I1, ru, ⟨rfl, fun ys hy => by rw [I.list_inj hy hq]; exact hx⟩, st', fun b hb => (hf b hb).1⟩⟩
  done := by
    intro X hP hw hK hc i pins s σ H E I hf st hg
    subst hP hw hK
    obtain ⟨xs, hq, hx⟩ := hg
    obtain ⟨its, rv, p, hz⟩ := I.list hq
    obtain ⟨f0, f1, f2, f3, f4, f5⟩ := hf it (by simp)
    have hl := rv.length
    exact wpAny_pyNext_list_end (I.ok.hd hc) st p.isList (by simp; omega) fun h' eb => ⟨rfl, I.turned (t' := s.toks) (fun b o hb e => eb b o hb e) f0 f1 f3 f4 f5⟩
  self := fun _ _ _ _ _ st h => wpAny_pyIter_listiter st h
theorem turn_tuple {P : Program} {w : World} {K : PySem.W.Frag} {tg : Expr} (a it : Addr) : Turn P w K tg (Itt K a) [it] it (fun i h => h.IsTupleIter it a i) where
  mem := by simp
  obj := fun i h st b hb => by
    have e : b = it := by simpa using hb
    subst e
    obtain ⟨o, e, c, d⟩ := st
    exact ⟨o, e, fun v z => by rw [d] at z; cases z⟩
  keep := fun i h h' st k => st.at fun o e => k it (by simp) o e
  item := by
    intro X hP hw hK hc i pins s σ H E I hf st hg
    subst hP hw hK
    obtain ⟨xs, x, hq, hx⟩ := hg
    obtain ⟨its, rv, p, hz⟩ := I.tuple hq
    obtain ⟨u, hu, ru⟩ := rv.get hx
    obtain ⟨f0, f1, f2, f3, f4, f5⟩ := hf it (by simp)
    refine wpAny_pyNext_tuple_item st (show s.heap.IsTuple a its.toArray from p) (x := u) (by simpa using hu) fun h' st' sb => ?_
    have I1 : Inv X pins σ H { s with heap := h' } := I.turned (t' := s.toks) (fun b o hb e => (sb.2 b hb).trans e) f0 f1 f3 f4 f5
    obtain ⟨o, e, c, d⟩ := id st'
    exact ⟨u, rfl, go_of (s := { s with heap := h' }) e c d (by decide) ⟨x, H, I1, ru, ⟨rfl, fun ys hy => by rw [I.tuple_inj hy hq]; exact hx⟩, st', fun b hb => (hf b hb).1⟩⟩
  done := by
    intro X hP hw hK hc i pins s σ H E I hf st hg
    subst hP hw hK
    obtain ⟨xs, hq, hx⟩ := hg
    obtain ⟨its, rv, p, hz⟩ := I.tuple hq
    obtain ⟨f0, f1, f2, f3, f4, f5⟩ := hf it (by simp)
    have hl := rv.length
    exact wpAny_pyNext_tuple_end (I.ok.hd hc) st (show s.heap.IsTuple a its.toArray from p) (by simp; omega) fun h' eb => ⟨rfl, I.turned (t' := s.toks) (fun b o hb e => eb b o hb e) f0 f1 f3 f4 f5⟩
  self := fun _ _ _ _ _ st h => wpAny_pyIter_tupleiter st h
theorem turn_range {P : Program} {w : World} {K : PySem.W.Frag} {tg : Expr} (it : Addr) (lo : Int) (n : Nat) : Turn P w K tg (Itr lo n) [it] it (fun i h => IsRangeIter h it (lo + (i : Nat) * 1) ((n : Int) - (i : Nat)) 1) where
  mem := by simp
  obj := fun i h st b hb => by
    have e : b = it := by simpa using hb
    subst e
    exact ⟨_, st, fun v z => by
      have z' : Data.fields _ = Data.cell v := z
      cases z'⟩
  keep := fun i h h' st k => k it (by simp) _ st
  item := by
    intro X hP hw hK hc i pins s σ H E I hf st hg
    subst hP hw hK
    obtain ⟨f0, f1, f2, f3, f4, f5⟩ := hf it (by simp)
    have W := Walks.range (prog := X.prog) (w := X.w) (I.ok.hd hc) it lo 1 n
    refine W.item i s _ _ hg st fun v h' tk hv st' kk => ?_
    obtain ⟨t, rfl⟩ := hv
    have I1 : Inv X pins σ H { s with heap := h', toks := tk } := I.turned (fun b o hb e => kk b o (by simpa using hb) e) f0 f1 f3 f4 f5
    refine ⟨_, rfl, go_of (s := { s with heap := h', toks := tk }) (n := "range_iterator") st' rfl rfl (by decide) ⟨.int (lo + i), H, I1, ⟨t, ?_⟩, ⟨rfl, rfl⟩, st', fun b hb => (hf b hb).1⟩⟩
    rw [Int.mul_one]
  done := by
    intro X hP hw hK hc i pins s σ H E I hf st hg
    subst hP hw hK
    obtain ⟨f0, f1, f2, f3, f4, f5⟩ := hf it (by simp)
    exact wpAny_pyNext_range_end (I.ok.hd hc) st (by have : n ≤ i := hg; omega) fun h' eb => ⟨rfl, I.turned (t' := s.toks) (fun b o hb e => eb b o hb e) f0 f1 f3 f4 f5⟩
  self := fun _ _ _ _ _ st h => wpAny_pyIter_rangeiter st h
end L2

namespace L2
open PySem PySem.Spec PyProof.Rows
section
variable {X : Cx} {tg : Expr}
def iList (K : PySem.W.Frag) (tl : TE) : TI := fun σ H R => tl σ H fun x H1 => ∃ a, x = .ref a ∧ (∃ xs, SqL K H1 a xs) ∧ R (Itl K a) H1
def iTup (K : PySem.W.Frag) (tl : TE) : TI := fun σ H R => tl σ H fun x H1 => ∃ a, x = .ref a ∧ (∃ xs, SqT K H1 a xs) ∧ R (Itt K a) H1
theorem pi_list {l : Expr} {tl : TE} (hl : PE X l tl) : PI X tg l (iList X.K tl) := by
  intro pins s σ H R I h
  refine thn (hl pins s σ H _ I h) fun v s1 ⟨x, H1, I1, r1, q1⟩ => ?_
  obtain ⟨a, e, ⟨xs, hq⟩, q⟩ := q1
  subst e
  cases r1
  obtain ⟨its, rv, p, hz⟩ := I1.list hq
  refine wpAny_pyIter_list p.isList ?_
  refine ⟨s1.heap.objs.size, [s1.heap.objs.size], _, _, H1, rfl, I1.kept (t' := s1.toks) fun b o e => Heap.get?_push_of_some _ e, turn_list a _, ⟨_, Heap.get?_push_size _ rfl, rfl, rfl⟩, fun b hb => ?_, q⟩
  have e : b = s1.heap.objs.size := by simpa using hb
  subst e
  exact I1.fpOk (Nat.le_refl _) (I1.hok.fresh (Nat.le_refl _))
theorem pi_tup {l : Expr} {tl : TE} (hl : PE X l tl) : PI X tg l (iTup X.K tl) := by
  intro pins s σ H R I h
  refine thn (hl pins s σ H _ I h) fun v s1 ⟨x, H1, I1, r1, q1⟩ => ?_
  obtain ⟨a, e, ⟨xs, hq⟩, q⟩ := q1
  subst e
  cases r1
  obtain ⟨its, rv, p, hz⟩ := I1.tuple hq
  refine wpAny_pyIter_tuple (show s1.heap.IsTuple a its.toArray from p) ?_
  refine ⟨s1.heap.objs.size, [s1.heap.objs.size], _, _, H1, rfl, I1.kept (t' := s1.toks) fun b o e => Heap.get?_push_of_some _ e, turn_tuple a _, ⟨_, Heap.get?_push_size _ rfl, rfl, rfl⟩, fun b hb => ?_, q⟩
  have e : b = s1.heap.objs.size := by simpa using hb
  subst e
  exact I1.fpOk (Nat.le_refl _) (I1.hok.fresh (Nat.le_refl _))
/-- a range object just made, walked -/
theorem range_it {pins : List (Addr × Obj)} {σ : St} {H : Hp} {s : Shared} {R : It → Hp → Prop} {E : Value → Shared → Prop} {lo hi : Int} {t u v : Tok} {tk : Nat} (I : Inv X pins σ H s) (h1 : -(2 ^ 62) ≤ lo) (h2 : lo < 2 ^ 62) (h3 : -(2 ^ 62) ≤ hi) (h4 : hi < 2 ^ 62)
    (q : R (Itr lo (hi - lo).toNat) H) : wpAny (model X.prog X.w) X.A (pyIter (.ref s.heap.objs.size)) (PIE X pins σ tg R) E { s with heap := s.heap.push { cls := .type "range", data := .fields #[.int lo t, .int hi u, .int 1 v] }, toks := tk } := by
  refine wpAny_pyIter_range (IsRange.new ..) (small_one h1 h2 h3 h4) ?_
  have I1 : Inv X pins σ H { s with heap := s.heap.push { cls := .type "range", data := .fields #[.int lo t, .int hi u, .int 1 v] }, toks := tk } := I.kept fun b o e => Heap.get?_push_of_some _ e
  refine ⟨(s.heap.push { cls := .type "range", data := .fields #[.int lo t, .int hi u, .int 1 v] }).objs.size, [(s.heap.push { cls := .type "range", data := .fields #[.int lo t, .int hi u, .int 1 v] }).objs.size], _, _, H, rfl,
    I1.kept (t' := tk) fun b o e => Heap.get?_push_of_some _ e, turn_range _ lo (hi - lo).toNat, ?_, fun b hb => ?_, q⟩
  · have e1 : lo + ((0 : Nat) : Int) * 1 = lo := by simp
    have e2 : (((hi - lo).toNat : Nat) : Int) - ((0 : Nat) : Int) = Builtin.Range.rangeSize lo hi 1 := by rw [rangeSize_one]; split <;> omega
    show IsRangeIter _ _ (lo + ((0 : Nat) : Int) * 1) ((((hi - lo).toNat : Nat) : Int) - ((0 : Nat) : Int)) 1
    rw [e1, e2]
    exact Heap.get?_push_size _ rfl
  · have e : b = (s.heap.push { cls := .type "range", data := .fields #[.int lo t, .int hi u, .int 1 v] }).objs.size := by simpa using hb
    subst e
    exact I1.fpOk (Nat.le_refl _) (I1.hok.fresh (Nat.le_refl _))
def iRng1 (ta : TA) : TI := fun σ H R => ta σ H fun vs H1 => ∃ j : Int, vs = [.int j] ∧ -(2 ^ 62) ≤ j ∧ j < 2 ^ 62 ∧ R (Itr 0 j.toNat) H1
def iRng2 (ta : TA) : TI := fun σ H R => ta σ H fun vs H1 => ∃ i j : Int, vs = [.int i, .int j] ∧ (-(2 ^ 62) ≤ i ∧ i < 2 ^ 62 ∧ -(2 ^ 62) ≤ j ∧ j < 2 ^ 62) ∧ R (Itr i (j - i).toNat) H1
theorem pi_range1 {a : Expr} {ta : TA} {p pos : Pos} (hg : Gl X "range") (hm : X.mg "range" = none) (ha : PA X [a] ta) (hs : starEach [a] X.env = [(false, eval a X.env)] := by rfl) : PI X tg (.Call (.Name "range" p) [a] [] pos) (iRng1 ta) := by
  intro pins s σ H R I h
  refine Call_ (ld_blt I hg hm boot_range (PyProof.Rows.callWith_type1 (thn (ha pos pins s σ H _ I h) fun us s1 ⟨vs, H1, I1, r1, q1⟩ => ?_) hs rfl))
  obtain ⟨j, e, q1, q2, q⟩ := q1
  subst e
  cases r1 with
  | cons r rr =>
    cases rr
    obtain ⟨t, rfl⟩ := r
    exact call_range_1 (range_it I1 (by omega) (by omega) q1 q2 (by simpa using q))
theorem pi_range2 {a b : Expr} {ta : TA} {p pos : Pos} (hg : Gl X "range") (hm : X.mg "range" = none) (ha : PA X [a, b] ta) (hs : starEach [a, b] X.env = [(false, eval a X.env), (false, eval b X.env)] := by rfl) (hs2 : starEach [b] X.env = [(false, eval b X.env)] := by rfl) :
    PI X tg (.Call (.Name "range" p) [a, b] [] pos) (iRng2 ta) := by
  intro pins s σ H R I h
  refine Call_ (ld_blt I hg hm boot_range (PyProof.Rows.callWith_type1 (thn (ha pos pins s σ H _ I h) fun us s1 ⟨vs, H1, I1, r1, q1⟩ => ?_) (by rw [hs, hs2]) (by rw [hs2]; rfl)))
  obtain ⟨i, j, e, ⟨q1, q2, q3, q4⟩, q⟩ := q1
  subst e
  cases r1 with
  | cons r rr =>
    cases rr with
    | cons r' rr =>
      cases rr
      obtain ⟨t, rfl⟩ := r
      obtain ⟨t', rfl⟩ := r'
      exact call_range_2 (range_it I1 q1 q2 q3 q4 q)

/-! ### for -/
/-- W: the invariant by the turn and a measure; N: what the body is to reach -/
def tFor (wi : TI) (g : TG) (tb : TS) : TS := fun D σ H => wi σ H fun J H1 => ∃ W : Nat → Nat → St → Hp → Prop, (∃ m, W 0 m σ H1) ∧ ∀ i m σ H, W i m σ H →
  (J.stop i H ∧ D.nx σ H) ∨ (J.go i H ∧ ∃ N : St → Hp → Prop, (∀ σ' H', N σ' H' → ∃ m', m' < m ∧ W (i + 1) m' σ' H') ∧ ∀ x H', J.yld i H x H' → g x σ H' fun σ2 H2 => tb { D with nx := N, ct := N, bk := D.nx } σ2 H2)
/-- the records at fp as they stand -/
def pinsAt (fp : List Addr) (h : Heap) : List (Addr × Obj) := fp.filterMap fun b => (h.get? b).map fun o => (b, o)
theorem mem_pinsAt {fp : List Addr} {h : Heap} {b : Addr} {o : Obj} (hb : b ∈ fp) (e : h.get? b = some o) : (b, o) ∈ pinsAt fp h := List.mem_filterMap.mpr ⟨b, hb, by rw [e]; rfl⟩
theorem of_pinsAt {fp : List Addr} {h : Heap} {p : Addr × Obj} (hp : p ∈ pinsAt fp h) : p.1 ∈ fp ∧ h.get? p.1 = some p.2 := by
  obtain ⟨b, hb, e⟩ := List.mem_filterMap.mp hp
  cases q : h.get? b with
  | none => rw [q] at e; cases e
  | some o =>
    rw [q] at e
    have e' : (b, o) = p := Option.some.inj e
    subst e'
    exact ⟨hb, q⟩
theorem Inv.pinned {pins : List (Addr × Obj)} {σ : St} {H : Hp} {s : Shared} {fp : List Addr} (I : Inv X pins σ H s) (hf : ∀ b ∈ fp, FpOk X pins H b) (ho : ∀ b ∈ fp, ∃ o, s.heap.get? b = some o ∧ ∀ v, o.data ≠ .cell v) : Inv X (pins ++ pinsAt fp s.heap) σ H s :=
  I.pins_of fun p hp => (List.mem_append.mp hp).elim (fun z => I.pin p (List.mem_append_right _ z)) fun z => by
    obtain ⟨hb, e⟩ := of_pinsAt z
    obtain ⟨f0, f1, f2, _⟩ := hf p.1 hb
    obtain ⟨o, e', d⟩ := ho p.1 hb
    rw [e] at e'; cases e'
    exact ⟨e, f0, f1, f2, d⟩
theorem Inv.unpinned {pins pl : List (Addr × Obj)} {σ : St} {H : Hp} {s : Shared} (I : Inv X (pins ++ pl) σ H s) : Inv X pins σ H s := I.pins_of fun p hp => I.pin p (List.mem_append_right _ (List.mem_append_left _ hp))
theorem ps_for {iter : Expr} {body : List Stmt} {wi : TI} {g : TG} {tb : TS} {pos : Pos} (hp : PassesOwn (model X.prog X.w) X.A X.env X.xe) (hc : X.calm = true) (hi : PI X tg iter wi) (hg : PG X tg g) (hb : PSs X body tb)
    (hs : ∀ x, foldedSetIterable iter X.env x = pure x := by intro _; rfl) : PS X (.For tg iter body [] pos) (tFor wi g tb) := by
  intro pins s σ H D I h
  refine wpAny_For (thn (hi pins s σ H _ I h) fun v s1 h1 => thn h1 fun itv s2 h2 => ?_) hs
  obtain ⟨it, fp, tn, J, H2, e, I2, T, st2, f2, W, ⟨m0, w0⟩, turn⟩ := h2
  subst e
  -- what stays true of the iterator's objects through the loop
  have stat : ∀ {H' : Hp}, (∀ b ∈ fp, H' b = none) → ∀ b ∈ fp, FpOk X pins H' b := fun hn b hb => ⟨hn b hb, (f2 b hb).2⟩
  refine codeAny_forLoop_any (fun n s' => ∃ i σ' H', Inv X pins σ' H' s' ∧ tn i s'.heap ∧ (∀ b ∈ fp, H' b = none) ∧ W i n σ' H') ?_ m0 ⟨0, σ, H2, I2, st2, fun b hb => (f2 b hb).1, w0⟩
  rintro n s3 ⟨i, σ3, H3, I3, st3, fr3, w3⟩
  rcases turn i n σ3 H3 w3 with ⟨stop, qn⟩ | ⟨go, N, hN, step⟩
  · refine wpAny_passesOwn hp (thn (T.done X rfl rfl rfl hc i pins s3 σ3 H3 X.xe I3 (stat fr3) st3 stop) fun r s4 ⟨hr, I4⟩ => ?_)
    subst hr
    exact wpAny_execs_nil ⟨σ3, H3, I4, qn⟩
  · refine wpAny_passesOwn hp (thn (T.item X rfl rfl rfl hc i pins s3 σ3 H3 X.xe I3 (stat fr3) st3 go) fun r s4 ⟨u, hr, h4⟩ => ?_)
    subst hr
    refine wpAny_passesOwn hp (thn h4 fun _ s5 ⟨x, H5, I5, r5, y5, st5, fr5⟩ => ?_)
    have I5' := I5.pinned (stat fr5) (T.obj _ _ st5)
    refine wpAny_passesOwn hp (thn (hg _ s5 σ3 H5 x u _ I5' r5 (step x H5 y5)) fun _ s6 ⟨σ6, H6, I6, q6⟩ => ?_)
    refine wpAny_passesOwn hp (thn (hb _ s6 σ6 H6 _ I6 q6) fun f s7 q7 => ?_)
    have again : ∀ {σ7 : St} {H7 : Hp}, Inv X (pins ++ pinsAt fp s5.heap) σ7 H7 s7 → N σ7 H7 → ∃ m, m < n ∧ ∃ i σ' H', Inv X pins σ' H' s7 ∧ tn i s7.heap ∧ (∀ b ∈ fp, H' b = none) ∧ W i m σ' H' := fun {σ7 H7} I7 n7 => by
      obtain ⟨m', hm, w7⟩ := hN σ7 H7 n7
      refine ⟨m', hm, i + 1, σ7, H7, I7.unpinned, T.keep _ _ _ st5 fun b hb o e => (I7.pin (b, o) (List.mem_append_right _ (List.mem_append_right _ (mem_pinsAt hb e)))).1, fun b hb => ?_, w7⟩
      obtain ⟨o, e, d⟩ := T.obj _ _ st5 b hb
      exact (I7.pin (b, o) (List.mem_append_right _ (List.mem_append_right _ (mem_pinsAt hb e)))).2.1
    cases f with
    | next => obtain ⟨σ7, H7, I7, n7⟩ := q7; exact again I7 n7
    | cont => obtain ⟨σ7, H7, I7, n7⟩ := q7; exact again I7 n7
    | brk => obtain ⟨σ7, H7, I7, q7⟩ := q7; exact ⟨σ7, H7, I7.unpinned, q7⟩
    | ret v => obtain ⟨x7, σ7, H7, I7, r7, q7⟩ := q7; exact ⟨x7, σ7, H7, I7.unpinned, r7, q7⟩
end

/-! ### the forms one uses -/
/-- over a list that the body leaves as it is -/
theorem for_list {K : PySem.W.Frag} {a : Addr} {xs : List V} {g : TG} {tb : TS} {D : Ends} {σ : St} {H : Hp} (Pv : Nat → St → Hp → Prop) (h0 : Pv 0 σ H) (hl : ∀ i σ H, i ≤ xs.length → Pv i σ H → SqL K H a xs)
    (hs : ∀ i x σ H, xs[i]? = some x → Pv i σ H → g x σ H fun σ2 H2 => tb { D with nx := Pv (i + 1), ct := Pv (i + 1), bk := D.nx } σ2 H2) (hd : ∀ σ H, Pv xs.length σ H → D.nx σ H) :
    ∃ W : Nat → Nat → St → Hp → Prop, (∃ m, W 0 m σ H) ∧ ∀ i m σ H, W i m σ H →
      ((Itl K a).stop i H ∧ D.nx σ H) ∨ ((Itl K a).go i H ∧ ∃ N : St → Hp → Prop, (∀ σ' H', N σ' H' → ∃ m', m' < m ∧ W (i + 1) m' σ' H') ∧ ∀ x H', (Itl K a).yld i H x H' → g x σ H' fun σ2 H2 => tb { D with nx := N, ct := N, bk := D.nx } σ2 H2) := by
  refine ⟨fun i m σ H => m = xs.length - i ∧ i ≤ xs.length ∧ Pv i σ H, ⟨xs.length, by simp, Nat.zero_le _, h0⟩, ?_⟩
  rintro i m σ H ⟨rfl, hi, p⟩
  have q := hl i σ H hi p
  by_cases hlt : i < xs.length
  · refine .inr ⟨⟨xs, xs[i], q, by simp [hlt]⟩, Pv (i + 1), fun σ' H' p' => ⟨xs.length - (i + 1), by omega, rfl, hlt, p'⟩, fun x H' y => ?_⟩
    obtain ⟨e, y⟩ := y
    subst e
    exact hs i x σ _ (y xs q) p
  · have e : i = xs.length := by omega
    subst e
    exact .inl ⟨⟨xs, q, Nat.le_refl _⟩, hd σ H p⟩
theorem for_tup {K : PySem.W.Frag} {a : Addr} {xs : List V} {g : TG} {tb : TS} {D : Ends} {σ : St} {H : Hp} (Pv : Nat → St → Hp → Prop) (h0 : Pv 0 σ H) (hl : ∀ i σ H, i ≤ xs.length → Pv i σ H → SqT K H a xs)
    (hs : ∀ i x σ H, xs[i]? = some x → Pv i σ H → g x σ H fun σ2 H2 => tb { D with nx := Pv (i + 1), ct := Pv (i + 1), bk := D.nx } σ2 H2) (hd : ∀ σ H, Pv xs.length σ H → D.nx σ H) :
    ∃ W : Nat → Nat → St → Hp → Prop, (∃ m, W 0 m σ H) ∧ ∀ i m σ H, W i m σ H →
      ((Itt K a).stop i H ∧ D.nx σ H) ∨ ((Itt K a).go i H ∧ ∃ N : St → Hp → Prop, (∀ σ' H', N σ' H' → ∃ m', m' < m ∧ W (i + 1) m' σ' H') ∧ ∀ x H', (Itt K a).yld i H x H' → g x σ H' fun σ2 H2 => tb { D with nx := N, ct := N, bk := D.nx } σ2 H2) := by
  refine ⟨fun i m σ H => m = xs.length - i ∧ i ≤ xs.length ∧ Pv i σ H, ⟨xs.length, by simp, Nat.zero_le _, h0⟩, ?_⟩
  rintro i m σ H ⟨rfl, hi, p⟩
  have q := hl i σ H hi p
  by_cases hlt : i < xs.length
  · refine .inr ⟨⟨xs, xs[i], q, by simp [hlt]⟩, Pv (i + 1), fun σ' H' p' => ⟨xs.length - (i + 1), by omega, rfl, hlt, p'⟩, fun x H' y => ?_⟩
    obtain ⟨e, y⟩ := y
    subst e
    exact hs i x σ _ (y xs q) p
  · have e : i = xs.length := by omega
    subst e
    exact .inl ⟨⟨xs, q, Nat.le_refl _⟩, hd σ H p⟩
theorem for_range {lo : Int} {n : Nat} {g : TG} {tb : TS} {D : Ends} {σ : St} {H : Hp} (Pv : Nat → St → Hp → Prop) (h0 : Pv 0 σ H)
    (hs : ∀ i σ H, i < n → Pv i σ H → g (.int (lo + i)) σ H fun σ2 H2 => tb { D with nx := Pv (i + 1), ct := Pv (i + 1), bk := D.nx } σ2 H2) (hd : ∀ σ H, Pv n σ H → D.nx σ H) :
    ∃ W : Nat → Nat → St → Hp → Prop, (∃ m, W 0 m σ H) ∧ ∀ i m σ H, W i m σ H →
      ((Itr lo n).stop i H ∧ D.nx σ H) ∨ ((Itr lo n).go i H ∧ ∃ N : St → Hp → Prop, (∀ σ' H', N σ' H' → ∃ m', m' < m ∧ W (i + 1) m' σ' H') ∧ ∀ x H', (Itr lo n).yld i H x H' → g x σ H' fun σ2 H2 => tb { D with nx := N, ct := N, bk := D.nx } σ2 H2) := by
  refine ⟨fun i m σ H => m = n - i ∧ i ≤ n ∧ Pv i σ H, ⟨n, by simp, Nat.zero_le _, h0⟩, ?_⟩
  rintro i m σ H ⟨rfl, hi, p⟩
  by_cases hlt : i < n
  · refine .inr ⟨hlt, Pv (i + 1), fun σ' H' p' => ⟨n - (i + 1), by omega, rfl, hlt, p'⟩, fun x H' y => ?_⟩
    obtain ⟨e, y⟩ := y
    subst e y
    exact hs i σ _ hlt p
  · have e : i = n := by omega
    subst e
    exact .inl ⟨Nat.le_refl _, hd σ H p⟩
/-- while, by a word and a measure of the state -/
theorem while_by {c : TT} {tb : TS} {D : Ends} {σ : St} {H : Hp} (Pv : St → Hp → Prop) (μ : St → Hp → Nat) (h0 : Pv σ H)
    (hs : ∀ σ H, Pv σ H → c σ H fun b H1 => if b = true then tb { D with nx := fun σ' H' => Pv σ' H' ∧ μ σ' H' < μ σ H, ct := fun σ' H' => Pv σ' H' ∧ μ σ' H' < μ σ H, bk := D.nx } σ H1 else D.nx σ H1)
    (mono : ∀ σ H Q Q', (∀ b H1, Q b H1 → Q' b H1) → c σ H Q → c σ H Q') : tWhile c tb D σ H := by
  refine ⟨fun m σ H => m = μ σ H ∧ Pv σ H, ⟨_, rfl, h0⟩, ?_⟩
  rintro m σ H ⟨rfl, p⟩
  refine mono σ H _ _ (fun b H1 q => ?_) (hs σ H p)
  cases b with
  | true => exact ⟨_, fun σ' H' ⟨p', l⟩ => ⟨_, l, rfl, p'⟩, q⟩
  | false => exact q
end L2

namespace L2
open PySem PySem.Spec PyProof.Rows

abbrev R2 := V → V → Hp → VK → Prop
/-- a two-place operation on values: f is binaryOp op, inplaceOp op or compareOp op -/
def OpR (X : Cx) (f : Value → Value → Sem Value) (r : R2) : Prop :=
  ∀ (pins : List (Addr × Obj)) (s : Shared) (σ : St) (H : Hp) (x y : V) (v u : Value) (Q : VK), Inv X pins σ H s → RelV x v → RelV y u → r x y H Q →
    wpAny (model X.prog X.w) X.A (f v u) (EP X pins σ Q) X.xe s
/-- a one-place operation -/
def UnR (X : Cx) (f : Value → Sem Value) (r : V → Hp → VK → Prop) : Prop :=
  ∀ (pins : List (Addr × Obj)) (s : Shared) (σ : St) (H : Hp) (x : V) (v : Value) (Q : VK), Inv X pins σ H s → RelV x v → r x H Q →
    wpAny (model X.prog X.w) X.A (f v) (EP X pins σ Q) X.xe s
/-- a call of a value that is known (a builtin, a type) with values -/
def CallR (X : Cx) (f : Value) (r : List V → Hp → VK → Prop) : Prop :=
  ∀ (pins : List (Addr × Obj)) (s : Shared) (σ : St) (H : Hp) (xs : List V) (us : List Value) (Q : VK), Inv X pins σ H s → Vals xs us → r xs H Q →
    wpAny (model X.prog X.w) X.A (call f us) (EP X pins σ Q) X.xe s
/-- a value's truth -/
def TruR (X : Cx) (r : V → Hp → (Bool → Hp → Prop) → Prop) : Prop :=
  ∀ (pins : List (Addr × Obj)) (s : Shared) (σ : St) (H : Hp) (x : V) (v : Value) (Q : Bool → Hp → Prop), Inv X pins σ H s → RelV x v → r x H Q →
    wpAny (model X.prog X.w) X.A (truthy v) (TP X pins σ Q) X.xe s

def tOp (r : R2) (ta tb : TE) : TE := fun σ H Q => ta σ H fun x H1 => tb σ H1 fun y H2 => r x y H2 Q
def tUn (r : V → Hp → VK → Prop) (ta : TE) : TE := fun σ H Q => ta σ H fun x H1 => r x H1 Q
/-- ints in, under C, and a value out -/
def rI (C : Int → Int → Prop) (g : Int → Int → V) : R2 := fun x y H Q => ∃ i j, x = .int i ∧ y = .int j ∧ C i j ∧ Q (g i j) H
def rI0 (g : Int → Int → V) : R2 := fun x y H Q => ∃ i j, x = .int i ∧ y = .int j ∧ Q (g i j) H
def rU (g : Int → V) : V → Hp → VK → Prop := fun x H Q => ∃ i, x = .int i ∧ Q (g i) H

section
variable {X : Cx} {a b c : Expr} {ta tb tc : TE} {pos : Pos}

theorem binT (ha : PE X a ta) (hb : PE X b tb) {pins : List (Addr × Obj)} {s : Shared} {σ : St} {H : Hp} {R : V → V → Hp → Prop} (I : Inv X pins σ H s)
    (h : ta σ H fun x H1 => tb σ H1 fun y H2 => R x y H2) {Q : Value → Shared → Prop} {f : Value → Value → Sem Value}
    (hf : ∀ v u s2 x y H2, Inv X pins σ H2 s2 → RelV x v → RelV y u → R x y H2 → wpAny (model X.prog X.w) X.A (f v u) Q X.xe s2) :
    wpAny (model X.prog X.w) X.A (eval a X.env) (fun v s₁ => wpAny (model X.prog X.w) X.A (eval b X.env) (fun u s₂ => wpAny (model X.prog X.w) X.A (f v u) Q X.xe s₂) X.xe s₁) X.xe s := by
  refine thn (ha pins s σ H _ I h) fun v s1 ⟨x, H1, I1, r1, q1⟩ => ?_
  refine thn (hb pins s1 σ H1 _ I1 q1) fun u s2 ⟨y, H2, I2, r2, q2⟩ => ?_
  exact hf v u s2 x y H2 I2 r1 r2 q2

theorem pe_op {op : Operator} {r : R2} (ho : OpR X (binaryOp op) r) (ha : PE X a ta) (hb : PE X b tb) : PE X (.BinOp a op b pos) (tOp r ta tb) := by
  intro pins s σ H Q I h
  exact wpAny_BinOp (binT ha hb I h fun v u s2 x y H2 I2 rx ry q => ho pins s2 σ H2 x y v u Q I2 rx ry q)
theorem pe_un {op : UnaryOp} {r : V → Hp → VK → Prop} (ho : UnR X (unaryOp op) r) (ha : PE X a ta) : PE X (.UnaryOp op a pos) (tUn r ta) := by
  intro pins s σ H Q I h
  exact UnaryOp_ (thn (ha pins s σ H _ I h) fun v s1 ⟨x, H1, I1, r1, q1⟩ => ho pins s1 σ H1 x v Q I1 r1 q1)
/-- a op= e at a name: the name's slot i -/
theorem augR {op : Operator} {r : R2} (ho : OpR X (inplaceOp op) r) {pins : List (Addr × Obj)} {s : Shared} {σ : St} {H : Hp} {x y : V} {v u : Value} {Q : VK} (I : Inv X pins σ H s)
    (rx : RelV x v) (ry : RelV y u) (q : r x y H Q) : wpAny (model X.prog X.w) X.A (inplaceOp op v u) (EP X pins σ Q) X.xe s := ho pins s σ H x y v u Q I rx ry q

/-! ### ints -/
theorem opI {f : Value → Value → Sem Value} {C : Int → Int → Prop} {g : Int → Int → Int}
    (rule : ∀ (i j : Int) (t u : Tok) (s : Shared) (Q : Value → Shared → Prop) (E : Value → Shared → Prop), C i j → Q (.int (g i j) s.toks) { s with toks := s.toks + 1 } → wpAny (model X.prog X.w) X.A (f (.int i t) (.int j u)) Q E s) :
    OpR X f (rI C fun i j => .int (g i j)) := by
  intro pins s σ H x y v u Q I rx ry h
  obtain ⟨i, j, rfl, rfl, hc, q⟩ := h
  obtain ⟨t, rfl⟩ := rx
  obtain ⟨t', rfl⟩ := ry
  exact rule i j t t' s _ _ hc ⟨.int (g i j), H, I.tok _, ⟨_, rfl⟩, q⟩
theorem opI0 {f : Value → Value → Sem Value} {g : Int → Int → Int}
    (rule : ∀ (i j : Int) (t u : Tok) (s : Shared) (Q : Value → Shared → Prop) (E : Value → Shared → Prop), Q (.int (g i j) s.toks) { s with toks := s.toks + 1 } → wpAny (model X.prog X.w) X.A (f (.int i t) (.int j u)) Q E s) :
    OpR X f (rI0 fun i j => .int (g i j)) := by
  intro pins s σ H x y v u Q I rx ry h
  obtain ⟨i, j, rfl, rfl, q⟩ := h
  obtain ⟨t, rfl⟩ := rx
  obtain ⟨t', rfl⟩ := ry
  exact rule i j t t' s _ _ ⟨.int (g i j), H, I.tok _, ⟨_, rfl⟩, q⟩
theorem opB0 {f : Value → Value → Sem Value} {g : Int → Int → Bool}
    (rule : ∀ (i j : Int) (t u : Tok) (s : Shared) (Q : Value → Shared → Prop) (E : Value → Shared → Prop), Q (.bool (g i j)) s → wpAny (model X.prog X.w) X.A (f (.int i t) (.int j u)) Q E s) :
    OpR X f (rI0 fun i j => .bl (g i j)) := by
  intro pins s σ H x y v u Q I rx ry h
  obtain ⟨i, j, rfl, rfl, q⟩ := h
  obtain ⟨t, rfl⟩ := rx
  obtain ⟨t', rfl⟩ := ry
  exact rule i j t t' s _ _ ⟨.bl (g i j), H, I, rfl, q⟩

def CDiv (i j : Int) : Prop := 0 < j ∧ j < 1073741824
def CDivN (i j : Int) : Prop := j ≠ 0 ∧ j.natAbs < 1073741824
def CPow (i j : Int) : Prop := 0 ≤ j ∧ j ≤ 1000000 ∧ i.natAbs < 2 ^ 64
def CMul (i j : Int) : Prop := (-(2 ^ 64) < i ∧ i < 2 ^ 64) ∨ (-(2 ^ 64) < j ∧ j < 2 ^ 64)
theorem CMul.ok {i j : Int} (h : CMul i j) : IntMulOk i j := by
  rcases h with ⟨h1, h2⟩ | ⟨h1, h2⟩
  · exact .of_left (intBits_le_64 h1 h2)
  · exact .of_right (intBits_le_64 h1 h2)
theorem two_pow_nn (k : Nat) : (0 : Int) ≤ 2 ^ k := by
  rw [two_pow_cast]
  exact Int.natCast_nonneg _

theorem op_add : OpR X (binaryOp .Add) (rI0 fun i j => .int (i + j)) := opI0 fun _ _ _ _ _ _ _ q => add_int q
theorem op_sub : OpR X (binaryOp .Sub) (rI0 fun i j => .int (i - j)) := opI0 fun _ _ _ _ _ _ _ q => sub_int q
theorem op_mul : OpR X (binaryOp .Mult) (rI CMul fun i j => .int (i * j)) := opI fun _ _ _ _ _ _ _ hc q => mul_int q hc.ok
/-- // by a positive divisor -/
theorem op_fdiv : OpR X (binaryOp .FloorDiv) (rI CDiv fun i j => .int (i / j)) := opI fun i j _ _ _ _ _ hc q => by
  have h1 : (0 : Int) < j := hc.1
  have h2 : j < 1073741824 := hc.2
  exact floordiv_int (by omega) (by rw [Int.fdiv_eq_ediv_of_nonneg i (by omega)]; exact q) (.inl (PyProof.noPylong_small (by omega)))
theorem op_fdivN : OpR X (binaryOp .FloorDiv) (rI CDivN fun i j => .int (i.fdiv j)) := opI fun _ _ _ _ _ _ _ hc q => floordiv_int hc.1 q (.inl (PyProof.noPylong_small hc.2))
/-- % by a positive divisor of any size -/
theorem op_mod : OpR X (binaryOp .Mod) (rI (fun _ j => 0 < j) fun i j => .int (i % j)) := opI fun i j _ _ _ _ _ hc q => by
  have h1 : (0 : Int) < j := hc
  exact mod_int' (by omega) (by rw [Int.fmod_eq_emod_of_nonneg i (by omega)]; exact q)
theorem op_modN : OpR X (binaryOp .Mod) (rI (fun _ j => j ≠ 0) fun i j => .int (i.fmod j)) := opI fun _ _ _ _ _ _ _ hc q => mod_int' hc q
theorem op_pow : OpR X (binaryOp .Pow) (rI CPow fun i j => .int (i ^ j.toNat)) := opI fun _ _ _ _ _ _ _ hc q => pow_int_small hc.1 hc.2.1 hc.2.2 q
theorem op_shl : OpR X (binaryOp .LShift) (rI CPow fun i j => .int (i * 2 ^ j.toNat)) := opI fun _ _ _ _ _ _ _ hc q => lshift_int_small hc.1 hc.2.1 hc.2.2 q
theorem op_shr : OpR X (binaryOp .RShift) (rI (fun _ j => 0 ≤ j) fun i j => .int (i / 2 ^ j.toNat)) := opI fun i j _ _ _ _ _ hc q =>
  rshift_int hc (by rw [Int.fdiv_eq_ediv_of_nonneg i (two_pow_nn _)]; exact q)
theorem op_and : OpR X (binaryOp .BitAnd) (rI0 fun i j => .int (Builtin.bitAnd i j)) := opI0 fun _ _ _ _ _ _ _ q => and_int q
theorem op_or : OpR X (binaryOp .BitOr) (rI0 fun i j => .int (Builtin.bitOr i j)) := opI0 fun _ _ _ _ _ _ _ q => or_int q
theorem op_xor : OpR X (binaryOp .BitXor) (rI0 fun i j => .int (Builtin.bitXor i j)) := opI0 fun _ _ _ _ _ _ _ q => xor_int q

theorem iop_add : OpR X (inplaceOp .Add) (rI0 fun i j => .int (i + j)) := opI0 fun _ _ _ _ _ _ _ q => iadd_int q
theorem iop_sub : OpR X (inplaceOp .Sub) (rI0 fun i j => .int (i - j)) := opI0 fun _ _ _ _ _ _ _ q => isub_int q
theorem iop_mul : OpR X (inplaceOp .Mult) (rI CMul fun i j => .int (i * j)) := opI fun _ _ _ _ _ _ _ hc q => imul_int q hc.ok
theorem iop_fdiv : OpR X (inplaceOp .FloorDiv) (rI CDiv fun i j => .int (i / j)) := opI fun i j _ _ _ _ _ hc q => by
  have h1 : (0 : Int) < j := hc.1
  have h2 : j < 1073741824 := hc.2
  exact ifloordiv_int (by omega) (by rw [Int.fdiv_eq_ediv_of_nonneg i (by omega)]; exact q) (.inl (PyProof.noPylong_small (by omega)))
theorem iop_mod : OpR X (inplaceOp .Mod) (rI (fun _ j => 0 < j) fun i j => .int (i % j)) := opI fun i j _ _ _ _ _ hc q => by
  have h1 : (0 : Int) < j := hc
  exact imod_int (by omega) (by rw [Int.fmod_eq_emod_of_nonneg i (by omega)]; exact q)
theorem iop_shl : OpR X (inplaceOp .LShift) (rI CPow fun i j => .int (i * 2 ^ j.toNat)) := opI fun _ _ _ _ _ _ _ hc q => ilshift_int_small hc.1 hc.2.1 hc.2.2 q
theorem iop_shr : OpR X (inplaceOp .RShift) (rI (fun _ j => 0 ≤ j) fun i j => .int (i / 2 ^ j.toNat)) := opI fun i j _ _ _ _ _ hc q =>
  irshift_int hc (by rw [Int.fdiv_eq_ediv_of_nonneg i (two_pow_nn _)]; exact q)
theorem iop_and : OpR X (inplaceOp .BitAnd) (rI0 fun i j => .int (Builtin.bitAnd i j)) := opI0 fun _ _ _ _ _ _ _ q => iand_int q
theorem iop_or : OpR X (inplaceOp .BitOr) (rI0 fun i j => .int (Builtin.bitOr i j)) := opI0 fun _ _ _ _ _ _ _ q => ior_int q
theorem iop_xor : OpR X (inplaceOp .BitXor) (rI0 fun i j => .int (Builtin.bitXor i j)) := opI0 fun _ _ _ _ _ _ _ q => ixor_int q

theorem unI {f : Value → Sem Value} {g : Int → Int}
    (rule : ∀ (i : Int) (t : Tok) (s : Shared) (Q : Value → Shared → Prop) (E : Value → Shared → Prop), Q (.int (g i) s.toks) { s with toks := s.toks + 1 } → wpAny (model X.prog X.w) X.A (f (.int i t)) Q E s) :
    UnR X f (rU fun i => .int (g i)) := by
  intro pins s σ H x v Q I rx h
  obtain ⟨i, rfl, q⟩ := h
  obtain ⟨t, rfl⟩ := rx
  exact rule i t s _ _ ⟨.int (g i), H, I.tok _, ⟨_, rfl⟩, q⟩
theorem un_neg : UnR X (unaryOp .USub) (rU fun i => .int (-i)) := unI fun _ _ _ _ _ q => neg_int q
theorem un_inv : UnR X (unaryOp .Invert) (rU fun i => .int (Builtin.bitNot i)) := unI fun _ _ _ _ _ q => invert_int q

/-! ### bools among ints: n += (a < b) -/
theorem op_add_ib : OpR X (binaryOp .Add) (fun x y H Q => ∃ i k, x = .int i ∧ y = .bl k ∧ Q (.int (i + b2i k)) H) := by
  intro pins s σ H x y v u Q I rx ry h
  obtain ⟨i, k, rfl, rfl, q⟩ := h
  obtain ⟨t, rfl⟩ := rx
  cases ry
  exact add_int_bool ⟨.int (i + b2i k), H, I.tok _, ⟨_, rfl⟩, q⟩
end

/-! ### comparisons -/
/-- the scalars that == tells apart as data does -/
def scal : V → V → Bool
  | .non, .non => true | .non, .int _ => true | .int _, .non => true | .non, .bl _ => true | .bl _, .non => true | .non, .str _ => true | .str _, .non => true
  | .int _, .int _ => true | .bl _, .bl _ => true | .str _, .str _ => true | .byt _, .byt _ => true
  | .int _, .str _ => true | .str _, .int _ => true | .bl _, .str _ => true | .str _, .bl _ => true
  | _, _ => false
def rEq : R2 := fun x y H Q => scal x y = true ∧ Q (.bl (decide (x = y))) H
def rNe : R2 := fun x y H Q => scal x y = true ∧ Q (.bl (!decide (x = y))) H

theorem dec_int {i j : Int} : decide (V.int i = V.int j) = (i == j) := by
  rw [Bool.eq_iff_iff]
  simp
theorem dec_bl {i j : Bool} : decide (V.bl i = V.bl j) = (i == j) := by
  rw [Bool.eq_iff_iff]
  simp
theorem dec_str {i j : Str} : decide (V.str i = V.str j) = (i == j) := by
  rw [Bool.eq_iff_iff]
  simp
theorem dec_byt {i j : Array UInt8} : decide (V.byt i = V.byt j) = (i.toList == j.toList) := by
  rw [Bool.eq_iff_iff]
  cases i
  cases j
  simp

section
variable {X : Cx} {a b c : Expr} {ta tb tc : TE} {pos : Pos}
theorem fin_bl {pins : List (Addr × Obj)} {σ : St} {H : Hp} {s : Shared} {Q : VK} {k k' : Bool} (I : Inv X pins σ H s) (q : Q (.bl k) H) (e : k = k') : EP X pins σ Q (.bool k') s := by
  subst e
  exact ⟨.bl k, H, I, rfl, q⟩
theorem op_eq : OpR X (compareOp .Eq) rEq := by
  intro pins s σ H x y v u Q I rx ry h
  obtain ⟨hs, q⟩ := h
  cases x with
  | non =>
    cases rx
    cases y with
    | non => cases ry; exact PySem.EqNone.eq_none_none (fin_bl I q (by simp))
    | bl j => cases ry; exact PySem.EqNone.eq_none_bool (fin_bl I q (by simp))
    | int j => obtain ⟨t', rfl⟩ := ry; exact PySem.EqNone.eq_none_int (fin_bl I q (by simp))
    | str j => obtain ⟨t', rfl⟩ := ry; exact PySem.EqNone.eq_none_str (fin_bl I q (by simp))
    | _ => exact absurd (show false = true from hs) Bool.false_ne_true
  | bl i =>
    cases rx
    cases y with
    | non => cases ry; exact PySem.EqNone.eq_bool_none (fin_bl I q (by simp))
    | bl j => cases ry; exact eq_bool (fin_bl I q dec_bl)
    | str j => obtain ⟨t', rfl⟩ := ry; exact PySem.EqMixed.eq_bool_str (fin_bl I q (by simp))
    | _ => exact absurd (show false = true from hs) Bool.false_ne_true
  | int i =>
    obtain ⟨t, rfl⟩ := rx
    cases y with
    | non => cases ry; exact PySem.EqNone.eq_int_none (fin_bl I q (by simp))
    | int j => obtain ⟨t', rfl⟩ := ry; exact eq_int (fin_bl I q dec_int)
    | str j => obtain ⟨t', rfl⟩ := ry; exact PySem.EqMixed.eq_int_str (fin_bl I q (by simp))
    | _ => exact absurd (show false = true from hs) Bool.false_ne_true
  | str i =>
    obtain ⟨t, rfl⟩ := rx
    cases y with
    | non => cases ry; exact PySem.EqNone.eq_str_none (fin_bl I q (by simp))
    | bl j => cases ry; exact PySem.EqMixed.eq_str_bool (fin_bl I q (by simp))
    | int j => obtain ⟨t', rfl⟩ := ry; exact PySem.EqMixed.eq_str_int (fin_bl I q (by simp))
    | str j => obtain ⟨t', rfl⟩ := ry; exact eq_str (fin_bl I q dec_str)
    | _ => exact absurd (show false = true from hs) Bool.false_ne_true
  | byt i =>
    obtain ⟨t, rfl⟩ := rx
    cases y with
    | byt j => obtain ⟨t', rfl⟩ := ry; exact PySem.W.eq_bytes (fin_bl I q dec_byt)
    | _ => exact absurd (show false = true from hs) Bool.false_ne_true
  | _ => cases y <;> exact absurd (show false = true from hs) Bool.false_ne_true
theorem op_ne : OpR X (compareOp .NotEq) rNe := by
  intro pins s σ H x y v u Q I rx ry h
  obtain ⟨hs, q⟩ := h
  cases x with
  | non =>
    cases rx
    cases y with
    | non => cases ry; exact PySem.EqNone.ne_none_none (fin_bl I q (by simp))
    | bl j => cases ry; exact PySem.EqNone.ne_none_bool (fin_bl I q (by simp))
    | int j => obtain ⟨t', rfl⟩ := ry; exact PySem.EqNone.ne_none_int (fin_bl I q (by simp))
    | str j => obtain ⟨t', rfl⟩ := ry; exact PySem.EqNone.ne_none_str (fin_bl I q (by simp))
    | _ => exact absurd (show false = true from hs) Bool.false_ne_true
  | bl i =>
    cases rx
    cases y with
    | non => cases ry; exact PySem.EqNone.ne_bool_none (fin_bl I q (by simp))
    | bl j => cases ry; exact ne_bool (fin_bl I q (congrArg not dec_bl))
    | str j => obtain ⟨t', rfl⟩ := ry; exact PySem.EqMixed.ne_bool_str (fin_bl I q (by simp))
    | _ => exact absurd (show false = true from hs) Bool.false_ne_true
  | int i =>
    obtain ⟨t, rfl⟩ := rx
    cases y with
    | non => cases ry; exact PySem.EqNone.ne_int_none (fin_bl I q (by simp))
    | int j => obtain ⟨t', rfl⟩ := ry; exact ne_int (fin_bl I q (congrArg not dec_int))
    | str j => obtain ⟨t', rfl⟩ := ry; exact PySem.EqMixed.ne_int_str (fin_bl I q (by simp))
    | _ => exact absurd (show false = true from hs) Bool.false_ne_true
  | str i =>
    obtain ⟨t, rfl⟩ := rx
    cases y with
    | non => cases ry; exact PySem.EqNone.ne_str_none (fin_bl I q (by simp))
    | bl j => cases ry; exact PySem.EqMixed.ne_str_bool (fin_bl I q (by simp))
    | int j => obtain ⟨t', rfl⟩ := ry; exact PySem.EqMixed.ne_str_int (fin_bl I q (by simp))
    | str j => obtain ⟨t', rfl⟩ := ry; exact ne_str (fin_bl I q (congrArg not dec_str))
    | _ => exact absurd (show false = true from hs) Bool.false_ne_true
  | byt i =>
    obtain ⟨t, rfl⟩ := rx
    cases y with
    | byt j => obtain ⟨t', rfl⟩ := ry; exact PySem.W.ne_bytes (fin_bl I q (congrArg not dec_byt))
    | _ => exact absurd (show false = true from hs) Bool.false_ne_true
  | _ => cases y <;> exact absurd (show false = true from hs) Bool.false_ne_true

theorem op_lt : OpR X (compareOp .Lt) (rI0 fun i j => .bl (decide (i < j))) := opB0 fun _ _ _ _ _ _ _ q => lt_int q
theorem op_le : OpR X (compareOp .LtE) (rI0 fun i j => .bl (decide (i ≤ j))) := opB0 fun _ _ _ _ _ _ _ q => le_int q
theorem op_gt : OpR X (compareOp .Gt) (rI0 fun i j => .bl (decide (j < i))) := opB0 fun _ _ _ _ _ _ _ q => gt_int q
theorem op_ge : OpR X (compareOp .GtE) (rI0 fun i j => .bl (decide (j ≤ i))) := opB0 fun _ _ _ _ _ _ _ q => ge_int q
theorem op_lt_str : OpR X (compareOp .Lt) (fun x y H Q => ∃ i j, x = .str i ∧ y = .str j ∧ Q (.bl (decide (i.cps.toList < j.cps.toList))) H) := by
  intro pins s σ H x y v u Q I rx ry h
  obtain ⟨i, j, rfl, rfl, q⟩ := h
  obtain ⟨t, rfl⟩ := rx
  obtain ⟨t', rfl⟩ := ry
  exact lt_str (fin_bl I q rfl)
/-- the one string within the other -/
theorem op_in_str : OpR X (compareOp .In) (fun x y H Q => ∃ i j, x = .str i ∧ y = .str j ∧ Q (.bl (!(Builtin.Str.occurrences j i 0 j.length 1).isEmpty)) H) := by
  intro pins s σ H x y v u Q I rx ry h
  obtain ⟨i, j, rfl, rfl, q⟩ := h
  obtain ⟨t, rfl⟩ := rx
  obtain ⟨t', rfl⟩ := ry
  exact in_str (fin_bl I q rfl)

/-- is None, is not None: the right side a value none -/
theorem op_isN : OpR X (compareOp .Is) (fun x y H Q => y = .non ∧ Q (.bl (decide (x = .non))) H) := by
  intro pins s σ H x y v u Q I rx ry h
  obtain ⟨rfl, q⟩ := h
  cases ry
  refine is_none_gen (fin_bl I q ?_)
  cases x <;> first
    | (cases rx; rfl)
    | (obtain ⟨t, rfl⟩ := rx; rfl)
theorem op_notN : OpR X (compareOp .IsNot) (fun x y H Q => y = .non ∧ Q (.bl (!decide (x = .non))) H) := by
  intro pins s σ H x y v u Q I rx ry h
  obtain ⟨rfl, q⟩ := h
  cases ry
  refine isnot_none_gen (fin_bl I q ?_)
  cases x <;> first
    | (cases rx; rfl)
    | (obtain ⟨t, rfl⟩ := rx; rfl)

theorem op_notin_str : OpR X (compareOp .NotIn) (fun x y H Q => ∃ i j, x = .str i ∧ y = .str j ∧ Q (.bl (!(!(Builtin.Str.occurrences j i 0 j.length 1).isEmpty))) H) := by
  intro pins s σ H x y v u Q I rx ry h
  obtain ⟨i, j, rfl, rfl, q⟩ := h
  obtain ⟨t, rfl⟩ := rx
  obtain ⟨t', rfl⟩ := ry
  exact notIn_str (fin_bl I q rfl)
/-- is, is not of two objects that are tracked lists or instances -/
def isObj : HO → Bool
  | .lst _ => true
  | .ins _ _ _ => true
  | _ => false
theorem obj_there {pins : List (Addr × Obj)} {s : Shared} {σ : St} {H : Hp} {a : Addr} {o : HO} (I : Inv X pins σ H s) (h : H a = some o) (p : isObj o = true) : ∃ ob, s.heap.get? a = some ob ∧ ob.cls ≠ .type "tuple" := by
  cases o with
  | lst xs =>
    obtain ⟨_, its, n, _, e⟩ : xs.length ≤ sizeLine ∧ ∃ (its : List Value) (n : Nat), Vals xs its ∧ s.heap.get? a = some { cls := .type "list", data := .seq its.toArray n } := I.hok a _ h
    exact ⟨_, e, (by show Value.type "list" ≠ .type "tuple"; decide +kernel)⟩
  | ins C dx fs =>
    have x := I.hok a _ h
    obtain ⟨_, _, _, e, _⟩ := x
    exact ⟨_, e, (by show Value.ref C ≠ .type "tuple"; exact fun z => by cases z)⟩
  | _ => exact absurd (show false = true from p) Bool.false_ne_true
theorem op_is_ref : OpR X (compareOp .Is) (fun x y H Q => ∃ a b oa ob, x = .ref a ∧ y = .ref b ∧ H a = some oa ∧ isObj oa = true ∧ H b = some ob ∧ isObj ob = true ∧ Q (.bl (decide (a = b))) H) := by
  intro pins s σ H x y v u Q I rx ry h
  obtain ⟨a, b, oa, ob, rfl, rfl, ha, pa, hb, pb, q⟩ := h
  cases rx
  cases ry
  obtain ⟨o1, e1, n1⟩ := obj_there I ha pa
  obtain ⟨o2, e2, _⟩ := obj_there I hb pb
  by_cases z : a = b
  · subst z
    exact wpAny_is_ref_self (fin_bl I q (by simp))
  · exact wpAny_is_ref_other z e1 e2 n1 (fin_bl I q (by simp [z]))
theorem op_isnot_ref : OpR X (compareOp .IsNot) (fun x y H Q => ∃ a b oa ob, x = .ref a ∧ y = .ref b ∧ H a = some oa ∧ isObj oa = true ∧ H b = some ob ∧ isObj ob = true ∧ Q (.bl (!decide (a = b))) H) := by
  intro pins s σ H x y v u Q I rx ry h
  obtain ⟨a, b, oa, ob, rfl, rfl, ha, pa, hb, pb, q⟩ := h
  cases rx
  cases ry
  obtain ⟨o1, e1, n1⟩ := obj_there I ha pa
  obtain ⟨o2, e2, _⟩ := obj_there I hb pb
  by_cases z : a = b
  · subst z
    exact wpAny_isNot_ref_self (fin_bl I q (by simp))
  · exact wpAny_isNot_ref_other z e1 e2 n1 (fin_bl I q (by simp [z]))

/-- two rules for one operation: by cases -/
theorem OpR.or {f : Value → Value → Sem Value} {r r' : R2} (h : OpR X f r) (h' : OpR X f r') : OpR X f (fun x y H Q => r x y H Q ∨ r' x y H Q) := by
  intro pins s σ H x y v u Q I rx ry q
  rcases q with q | q
  · exact h pins s σ H x y v u Q I rx ry q
  · exact h' pins s σ H x y v u Q I rx ry q

theorem nomark (b : Expr) {op : CmpOp} (h : op ≠ .In := by decide) (h2 : op ≠ .NotIn := by decide) : behindInMarks op b = false := by
  have e1 : (op == CmpOp.In) = false := by cases op <;> first | rfl | exact absurd rfl h
  have e2 : (op == CmpOp.NotIn) = false := by cases op <;> first | rfl | exact absurd rfl h2
  cases b <;> simp [behindInMarks, e1, e2]
/-- a comparison as a value; hm: nomark b, or (for in, not in) by with_unfolding_all rfl -/
theorem pe_cmpR {op : CmpOp} {r : R2} (ho : OpR X (compareOp op) r) (ha : PE X a ta) (hb : PE X b tb) (hm : behindInMarks op b = false) : PE X (.Compare a [op] [b] pos) (tOp r ta tb) := by
  intro pins s σ H Q I h
  exact wpAny_Compare1 (binT ha hb I h fun v u s2 x y H2 I2 rx ry q => ho pins s2 σ H2 x y v u Q I2 rx ry q) hm
/-- a reading of a value as a test -/
def tTest (t : TE) : TT := fun σ H Q => t σ H fun x H' => ∃ k, x = .bl k ∧ Q k H'
theorem pt_cmpR {op : CmpOp} {r : R2} (ho : OpR X (compareOp op) r) (ha : PE X a ta) (hb : PE X b tb) (hm : behindInMarks op b = false) : PT X (.Compare a [op] [b] pos) (tTest (tOp r ta tb)) := by
  intro pins s σ H Q I h
  refine wpAny_isTrue_Compare1 (thn (ha pins s σ H _ I h) fun v s1 ⟨x, H1, I1, r1, q1⟩ => thn (hb pins s1 σ H1 _ I1 q1) fun u s2 ⟨y, H2, I2, r2, q2⟩ =>
    thn (ho pins s2 σ H2 x y v u _ I2 r1 r2 q2) fun c s3 ⟨z, H3, I3, r3, k, e, q3⟩ => ?_) hm
  subst e
  cases r3
  exact wpAny_truthy_bool ⟨H3, I3, q3⟩
/-- a op1 b op2 c -/
def tChain (r r' : R2) (ta tb tc : TE) : TE := fun σ H Q => ta σ H fun x H1 => tb σ H1 fun y H2 => r x y H2 fun z H3 => ∃ k, z = .bl k ∧
  (if k = true then tc σ H3 fun w' H4 => r' y w' H4 Q else Q (.bl false) H3)
theorem pe_chain {op op' : CmpOp} {r r' : R2} (ho : OpR X (compareOp op) r) (ho' : OpR X (compareOp op') r') (ha : PE X a ta) (hb : PE X b tb) (hc : PE X c tc)
    (hm : lastMarks [op, op'] [b, c] = false := by with_unfolding_all rfl) : PE X (.Compare a [op, op'] [b, c] pos) (tChain r r' ta tb tc) := by
  intro pins s σ H Q I h
  refine Compare_chain (thn (ha pins s σ H _ I h) fun v s1 ⟨x, H1, I1, r1, q1⟩ => chain_link (thn (hb pins s1 σ H1 _ I1 q1) fun u s2 ⟨y, H2, I2, r2, q2⟩ =>
    thn (ho pins s2 σ H2 x y v u _ I2 r1 r2 q2) fun d s3 ⟨z, H3, I3, r3, k, e, q3⟩ => ?_)) hm
  subst e
  cases r3
  refine wpAny_truthy_bool ?_
  cases k with
  | false => exact ite_ff ⟨.bl false, H3, I3, rfl, q3⟩
  | true => exact ite_tt (chain_last (thn (hc pins s3 σ H3 _ I3 q3) fun w' s4 ⟨z', H4, I4, r4, q4⟩ => ho' pins s4 σ H4 y z' u w' Q I4 r2 r4 q4))
theorem pt_chain {op op' : CmpOp} {r r' : R2} (ho : OpR X (compareOp op) r) (ho' : OpR X (compareOp op') r') (ha : PE X a ta) (hb : PE X b tb) (hc : PE X c tc)
    (hm : lastMarks [op, op'] [b, c] = false := by with_unfolding_all rfl) : PT X (.Compare a [op, op'] [b, c] pos) (tTest (tChain r r' ta tb tc)) := by
  intro pins s σ H Q I h
  refine isTrue_chain (thn (ha pins s σ H _ I h) fun v s1 ⟨x, H1, I1, r1, q1⟩ => test_link (thn (hb pins s1 σ H1 _ I1 q1) fun u s2 ⟨y, H2, I2, r2, q2⟩ =>
    thn (ho pins s2 σ H2 x y v u _ I2 r1 r2 q2) fun d s3 ⟨z, H3, I3, r3, k, e, q3⟩ => ?_)) hm
  subst e
  cases r3
  refine wpAny_truthy_bool ?_
  cases k with
  | false =>
    obtain ⟨k', e', q'⟩ := q3
    cases e'
    exact ite_ff ⟨H3, I3, q'⟩
  | true =>
    refine ite_tt (test_last (thn (hc pins s3 σ H3 _ I3 q3) fun w' s4 ⟨z', H4, I4, r4, q4⟩ => thn (ho' pins s4 σ H4 y z' u w' _ I4 r2 r4 q4) fun d' s5 ⟨z2, H5, I5, r5, k2, e2, q5⟩ => ?_))
    subst e2
    cases r5
    exact wpAny_truthy_bool ⟨H5, I5, q5⟩

/-! ### truth -/
/-- a value's truth by the abstract heap -/
def TruV (K : PySem.W.Frag) (x : V) (H : Hp) (k : Bool) : Prop :=
  match x with
  | .non => k = false
  | .bl b => k = b
  | .int i => k = (i != 0)
  | .str y => y.length ≤ sizeLine ∧ k = ((y.length : Int) != 0)
  | .byt y => y.size ≤ sizeLine ∧ k = ((y.size : Int) != 0)
  | .ref p => (∃ xs, SqL K H p xs ∧ k = !xs.isEmpty) ∨ (∃ xs, SqT K H p xs ∧ k = !xs.isEmpty) ∨ ∃ kvs, H p = some (.dK kvs) ∧ k = !kvs.isEmpty
  | _ => False
theorem isEmpty_kv {κ : Type} {kvs : List (κ × V)} {vs : List (κ × Value)} (r : KV kvs vs) : (!vs.isEmpty) = !kvs.isEmpty := by
  cases r <;> rfl
theorem isEmpty_of {xs : List V} {its : List Value} (r : Vals xs its) : (!its.toArray.isEmpty) = !xs.isEmpty := by
  cases r <;> simp
theorem line63 : (sizeLine : Nat) < 2 ^ 63 := by rw [sizeLine_eq]; decide
theorem tru_ok : TruR X (fun x H Q => ∃ k, TruV X.K x H k ∧ Q k H) := by
  intro pins s σ H x v Q I rx h
  obtain ⟨k, e, q⟩ := h
  have hl := line63
  have hs : sizeLine = 16777216 := sizeLine_eq
  cases x with
  | non =>
    cases rx
    have e' : k = false := e
    subst e'
    exact truthy_none ⟨H, I, q⟩
  | bl b =>
    cases rx
    have e' : k = b := e
    subst e'
    exact wpAny_truthy_bool ⟨H, I, q⟩
  | int i =>
    obtain ⟨t, rfl⟩ := rx
    have e' : k = (i != 0) := e
    subst e'
    exact PySem.P.truthy_int ⟨H, I, q⟩
  | str y =>
    obtain ⟨t, rfl⟩ := rx
    obtain ⟨hy, e'⟩ : y.length ≤ sizeLine ∧ k = ((y.length : Int) != 0) := e
    subst e'
    exact PySem.P.truthy_str (by omega) ⟨H, I.tok _, q⟩
  | byt y =>
    obtain ⟨t, rfl⟩ := rx
    obtain ⟨hy, e'⟩ : y.size ≤ sizeLine ∧ k = ((y.size : Int) != 0) := e
    subst e'
    exact PySem.W.truthy_bytes (by omega) ⟨H, I.tok _, q⟩
  | ref p =>
    cases rx
    have e' : (∃ xs, SqL X.K H p xs ∧ k = !xs.isEmpty) ∨ (∃ xs, SqT X.K H p xs ∧ k = !xs.isEmpty) ∨ ∃ kvs, H p = some (.dK kvs) ∧ k = !kvs.isEmpty := e
    rcases e' with ⟨xs, hx, e'⟩ | ⟨xs, hx, e'⟩ | ⟨kvs, hx, e'⟩
    · subst e'
      obtain ⟨its, r, pl, hz⟩ := I.list hx
      have hlen := r.length
      exact wpAny_truthy_list pl.isList (by simp only [List.size_toArray]; omega) ⟨H, I.tok _, by rw [isEmpty_of r]; exact q⟩
    · subst e'
      obtain ⟨its, r, pl, hz⟩ := I.tuple hx
      have hlen := r.length
      exact truthy_tuple pl (by simp only [List.size_toArray]; omega) ⟨H, I.tok _, by rw [isEmpty_of r]; exact q⟩
    · subst e'
      obtain ⟨hz, hS, vs, r, m⟩ : kvs.length ≤ sizeLine ∧ (p == sysModules) = false ∧ ∃ vs, KV kvs vs ∧ s.heap.DictOf (mixKind X.prog X.w) p vs := I.hok p _ hx
      have hlen : kvs.length = vs.length := Paired.length r
      exact wpAny_truthy_dict hS m (by omega) ⟨H, I.tok _, by rw [isEmpty_kv r]; exact q⟩
  | _ => exact (show False from e).elim
/-- any expression whose test is its value's truth (a name, a call, a subscript, a field ..: he by fun _ => rfl) -/
theorem pt_truth (ha : PE X a ta) (he : ∀ whole, isTrue a X.env whole = (do let v ← whole; standAt a.pos; holding [v] (truthy v))) :
    PT X a (fun σ H Q => ta σ H fun x H' => ∃ k, TruV X.K x H' k ∧ Q k H') := by
  intro pins s σ H Q I h
  exact isTrue_plain (thn (ha pins s σ H _ I h) fun v s1 ⟨x, H1, I1, r1, q1⟩ => tru_ok pins s1 σ H1 x v Q I1 r1 q1) (he _)

/-! ### strs and bytes -/
theorem pe_byt {x : List UInt8} {k : Nat} : PE X (.Constant (.bytes x) k pos) (fun _ H Q => Q (.byt x.toArray) H) := fun _ _ _ H _ I h => PySem.W.Constant_bytes ⟨.byt x.toArray, H, I.tok _, ⟨_, rfl⟩, h⟩
theorem op_add_str : OpR X (binaryOp .Add) (fun x y H Q => ∃ i j, x = .str i ∧ y = .str j ∧ i.length + j.length ≤ sizeLine ∧ Q (.str (i ++ j)) H) := by
  intro pins s σ H x y v u Q I rx ry h
  obtain ⟨i, j, rfl, rfl, hz, q⟩ := h
  obtain ⟨t, rfl⟩ := rx
  obtain ⟨t', rfl⟩ := ry
  exact add_str (fun t' tk => ⟨.str (i ++ j), H, I.tok _, ⟨_, rfl⟩, q⟩) hz
theorem iop_add_str : OpR X (inplaceOp .Add) (fun x y H Q => ∃ i j, x = .str i ∧ y = .str j ∧ i.length + j.length ≤ sizeLine ∧ Q (.str (i ++ j)) H) := by
  intro pins s σ H x y v u Q I rx ry h
  obtain ⟨i, j, rfl, rfl, hz, q⟩ := h
  obtain ⟨t, rfl⟩ := rx
  obtain ⟨t', rfl⟩ := ry
  exact iadd_str (fun t' tk => ⟨.str (i ++ j), H, I.tok _, ⟨_, rfl⟩, q⟩) hz
theorem op_add_byt : OpR X (binaryOp .Add) (fun x y H Q => ∃ i j, x = .byt i ∧ y = .byt j ∧ i.size + j.size ≤ 16777216 ∧ Q (.byt (i ++ j)) H) := by
  intro pins s σ H x y v u Q I rx ry h
  obtain ⟨i, j, rfl, rfl, hz, q⟩ := h
  obtain ⟨t, rfl⟩ := rx
  obtain ⟨t', rfl⟩ := ry
  exact PySem.W.KBy.add_bytes hz (fun t' tk => ⟨.byt (i ++ j), H, I.tok _, ⟨_, rfl⟩, q⟩)

def PlainIxT (b : Expr) : Prop := ∀ o i, subscripted b false o i = operate [o, i] (getItem o i)
/-- s[i], 0 ≤ i < len -/
theorem pe_item_str (ha : PE X a ta) (hb : PE X b tb) (hs : PlainIxT b) :
    PE X (.Subscript a b pos) (tOp (fun x y H Q => ∃ z i c, x = .str z ∧ y = .int i ∧ 0 ≤ i ∧ i < 2 ^ 63 ∧ i < z.length ∧ z.cps[i.toNat]? = some c ∧ Q (.str ⟨#[c]⟩) H) ta tb) := by
  intro pins s σ H Q I h
  refine Subscript_ (binT ha hb I h fun v u s2 x y H2 I2 rx ry q => ?_)
  obtain ⟨z, i, c, rfl, rfl, h0, h63, h1, hc, q⟩ := q
  obtain ⟨t, rfl⟩ := rx
  obtain ⟨t', rfl⟩ := ry
  have e : seqIndex? i z.length = some i.toNat := PySem.StrLaws.seqIndex_nonneg h0 h1
  exact tail_any (typeIs_str s2 z t) slot_str_getitem.lookup (getItem_str (c := c) (by
    have e1 : decide (i < -(2 ^ 63 : Int)) = false := decide_eq_false (by omega)
    have e2 : decide (i ≥ 2 ^ 63) = false := decide_eq_false (by omega)
    rw [e1, e2] <;> rfl) (by rw [e]; exact hc) ⟨.str ⟨#[c]⟩, H2, I2.tok _, ⟨_, rfl⟩, q⟩) (hs _ _)
/-- b[i], 0 ≤ i < len -/
theorem pe_item_byt (ha : PE X a ta) (hb : PE X b tb) (hs : PlainIxT b) :
    PE X (.Subscript a b pos) (tOp (fun x y H Q => ∃ (z : List UInt8) (i : Int), x = .byt z.toArray ∧ y = .int i ∧ z.length ≤ sizeLine ∧ 0 ≤ i ∧ i < z.length ∧ Q (.int ((z.getD i.toNat 0).toNat : Nat)) H) ta tb) := by
  intro pins s σ H Q I h
  refine Subscript_ (binT ha hb I h fun v u s2 x y H2 I2 rx ry q => ?_)
  obtain ⟨z, i, rfl, rfl, hz, h0, h1, q⟩ := q
  obtain ⟨t, rfl⟩ := rx
  obtain ⟨t', rfl⟩ := ry
  have hl : sizeLine = 16777216 := sizeLine_eq
  exact tail_any (PySem.W.typeIs_bytes s2 z.toArray t) PySem.W.FB.slot_bytes_getitem.lookup (PySem.W.getItem_bytes (by omega) h0 h1 ⟨.int ((z.getD i.toNat 0).toNat : Nat), H2, I2.tok _, ⟨_, rfl⟩, q⟩) (hs _ _)

/-! ### scalar builtins, by CallR -/
theorem vals1 {x : V} {us : List Value} (r : Vals [x] us) : ∃ u, us = [u] ∧ RelV x u := by
  cases r with
  | cons r1 r2 => cases r2; exact ⟨_, rfl, r1⟩
theorem vals2 {x y : V} {us : List Value} (r : Vals [x, y] us) : ∃ u w', us = [u, w'] ∧ RelV x u ∧ RelV y w' := by
  cases r with
  | cons r1 r2 =>
    cases r2 with
    | cons r3 r4 => cases r4; exact ⟨_, _, rfl, r1, r3⟩
theorem call_abs : CallR X (.builtin "abs") (fun xs H Q => ∃ i, xs = [.int i] ∧ Q (.int (if i < 0 then -i else i)) H) := by
  intro pins s σ H xs us Q I r h
  obtain ⟨i, rfl, q⟩ := h
  obtain ⟨u, rfl, t, rfl⟩ := vals1 r
  exact call_abs_int fun u tk => ⟨.int (if i < 0 then -i else i), H, I.tok _, ⟨_, rfl⟩, q⟩
theorem call_max2 (hc : X.calm = true) : CallR X (.builtin "max") (fun xs H Q => ∃ i j, xs = [.int i, .int j] ∧ Q (.int (if j > i then j else i)) H) := by
  intro pins s σ H xs us Q I r h
  obtain ⟨i, j, rfl, q⟩ := h
  obtain ⟨u, w', rfl, ⟨t, rfl⟩, ⟨t', rfl⟩⟩ := vals2 r
  refine max_two_ints (I.ok.hd hc) fun h' tk k => ⟨_, H, I.kept k, ?_, q⟩
  by_cases hj : j > i
  · rw [if_pos hj, if_pos hj]; exact ⟨_, rfl⟩
  · rw [if_neg hj, if_neg hj]; exact ⟨_, rfl⟩
theorem call_min2 (hc : X.calm = true) : CallR X (.builtin "min") (fun xs H Q => ∃ i j, xs = [.int i, .int j] ∧ Q (.int (if j < i then j else i)) H) := by
  intro pins s σ H xs us Q I r h
  obtain ⟨i, j, rfl, q⟩ := h
  obtain ⟨u, w', rfl, ⟨t, rfl⟩, ⟨t', rfl⟩⟩ := vals2 r
  refine min_two_ints (I.ok.hd hc) fun h' tk k => ⟨_, H, I.kept k, ?_, q⟩
  by_cases hj : j < i
  · rw [if_pos hj, if_pos hj]; exact ⟨_, rfl⟩
  · rw [if_neg hj, if_neg hj]; exact ⟨_, rfl⟩
theorem call_int1 : CallR X (.type "int") (fun xs H Q => (∃ i, xs = [.int i] ∧ Q (.int i) H) ∨ ∃ k, xs = [.bl k] ∧ Q (.int (if k then 1 else 0)) H) := by
  intro pins s σ H xs us Q I r h
  rcases h with ⟨i, rfl, q⟩ | ⟨k, rfl, q⟩
  · obtain ⟨u, rfl, t, rfl⟩ := vals1 r
    exact call_int_int ⟨.int i, H, I, ⟨_, rfl⟩, q⟩
  · obtain ⟨u, rfl, r1⟩ := vals1 r
    cases r1
    exact call_int_bool ⟨.int (if k then 1 else 0), H, I.tok _, ⟨_, rfl⟩, q⟩
theorem call_bool1 : CallR X (.type "bool") (fun xs H Q => (∃ i, xs = [.int i] ∧ Q (.bl (i != 0)) H) ∨ ∃ k, xs = [.bl k] ∧ Q (.bl k) H) := by
  intro pins s σ H xs us Q I r h
  rcases h with ⟨i, rfl, q⟩ | ⟨k, rfl, q⟩
  · obtain ⟨u, rfl, t, rfl⟩ := vals1 r
    exact call_bool_int ⟨.bl (i != 0), H, I, rfl, q⟩
  · obtain ⟨u, rfl, r1⟩ := vals1 r
    cases r1
    exact call_bool_bool ⟨.bl k, H, I, rfl, q⟩
theorem call_str_int : CallR X (.type "str") (fun xs H Q => ∃ i, xs = [.int i] ∧ i.natAbs.log2 < 1920 ∧ Q (.str (toString i)) H) := by
  intro pins s σ H xs us Q I r h
  obtain ⟨i, rfl, hz, q⟩ := h
  obtain ⟨u, rfl, t, rfl⟩ := vals1 r
  exact PySem.P.str_of_int hz ⟨.str _, H, I.tok _, ⟨_, rfl⟩, q⟩
theorem call_ord : CallR X (.builtin "ord") (fun xs H Q => ∃ x, xs = [.str x] ∧ x.length = 1 ∧ Q (.int (x.cps.getD 0 0 : Nat)) H) := by
  intro pins s σ H xs us Q I r h
  obtain ⟨x, rfl, hz, q⟩ := h
  obtain ⟨u, rfl, t, rfl⟩ := vals1 r
  exact ord_of_one hz ⟨.int _, H, I.tok _, ⟨_, rfl⟩, q⟩
theorem call_chr : CallR X (.builtin "chr") (fun xs H Q => ∃ i, xs = [.int i] ∧ 0 ≤ i ∧ i ≤ 1114111 ∧ Q (.str ⟨#[i.toNat]⟩) H) := by
  intro pins s σ H xs us Q I r h
  obtain ⟨i, rfl, h0, h1, q⟩ := h
  obtain ⟨u, rfl, t, rfl⟩ := vals1 r
  exact chr_of_range h0 h1 ⟨.str _, H, I.tok _, ⟨_, rfl⟩, q⟩
/-- len of a str, a bytes, a list, a tuple -/
def LenV (K : PySem.W.Frag) (x : V) (H : Hp) (n : Nat) : Prop :=
  match x with
  | .str y => y.length ≤ sizeLine ∧ n = y.length
  | .byt y => y.size ≤ sizeLine ∧ n = y.size
  | .ref p => (∃ xs, SqL K H p xs ∧ n = xs.length) ∨ ∃ xs, SqT K H p xs ∧ n = xs.length
  | _ => False
theorem call_len : CallR X (.builtin "len") (fun xs H Q => ∃ x n, xs = [x] ∧ LenV X.K x H n ∧ Q (.int n) H) := by
  intro pins s σ H xs us Q I r h
  obtain ⟨x, n, rfl, e, q⟩ := h
  obtain ⟨u, rfl, rx⟩ := vals1 r
  have hl := line63
  have hs : sizeLine = 16777216 := sizeLine_eq
  cases x with
  | str y =>
    obtain ⟨t, rfl⟩ := rx
    obtain ⟨hy, e'⟩ : y.length ≤ sizeLine ∧ n = y.length := e
    subst e'
    exact len_str (by omega) ⟨.int _, H, I.tok _, ⟨_, rfl⟩, q⟩
  | byt y =>
    obtain ⟨t, rfl⟩ := rx
    obtain ⟨hy, e'⟩ : y.size ≤ sizeLine ∧ n = y.size := e
    subst e'
    exact PySem.W.len_bytes (by omega) ⟨.int _, H, I.tok _, ⟨_, rfl⟩, q⟩
  | ref p =>
    cases rx
    have e' : (∃ xs, SqL X.K H p xs ∧ n = xs.length) ∨ ∃ xs, SqT X.K H p xs ∧ n = xs.length := e
    rcases e' with ⟨xs, hx, e'⟩ | ⟨xs, hx, e'⟩
    · subst e'
      obtain ⟨its, r', pl, hz⟩ := I.list hx
      have hlen := r'.length
      exact Calls.call_len_list pl.isList (by simp only [List.size_toArray]; omega) ⟨.int xs.length, H, I.tok _, ⟨_, by simp only [List.size_toArray]; rw [hlen]⟩, q⟩
    · subst e'
      obtain ⟨its, r', pl, hz⟩ := I.tuple hx
      have hlen := r'.length
      exact len_tuple pl (by simp only [List.size_toArray]; omega) ⟨.int xs.length, H, I.tok _, ⟨_, by simp only [List.size_toArray]; rw [hlen]⟩, q⟩
  | _ => exact (show False from e).elim
/-- divmod: a new tuple -/
theorem call_divmod : CallR X (.builtin "divmod") (fun xs H Q => ∃ i j, xs = [.int i, .int j] ∧ CDiv i j ∧ ∀ p, H p = none → Q (.ref p) (upd H p (.tup [.int (i / j), .int (i % j)]))) := by
  intro pins s σ H xs us Q I r h
  obtain ⟨i, j, rfl, ⟨h1, h2⟩, q⟩ := h
  obtain ⟨u, w', rfl, ⟨t, rfl⟩, ⟨t', rfl⟩⟩ := vals2 r
  refine divmod_int (by omega) ?_ (.inl (PyProof.noPylong_small (by omega)))
  rw [Int.fdiv_eq_ediv_of_nonneg i (by omega), Int.fmod_eq_emod_of_nonneg i (by omega)]
  have hn : H s.heap.objs.size = none := I.hok.fresh (Nat.le_refl _)
  refine ⟨.ref s.heap.objs.size, _, ?_, rfl, q _ hn⟩
  refine I.laid (fun b o e => Heap.get?_push_of_some _ e) (Nat.le_refl _) ⟨by simp only [List.length_cons, List.length_nil]; rw [sizeLine_eq]; decide, [.int (i / j) s.toks, .int (i % j) (s.toks + 1)], .cons ⟨_, rfl⟩ (.cons ⟨_, rfl⟩ .nil), ?_⟩
  exact ⟨_, Heap.get?_push_size s.heap rfl, rfl, 0, rfl⟩
end
end L2

namespace L2
open PySem PySem.Spec PyProof.Rows

/-! ### an instance, its attributes a map -/
structure ObjM (h : Heap) (x dx C : Addr) (mA : Str → Option Value) : Prop where
  obj : h.get? x = some (PySem.W.instObj C dx)
  ns : h.Ns1 dx mA
  ne : dx ≠ x

theorem lookIn_ns {h : Heap} {dx : Addr} {mA : Str → Option Value} (n : h.Ns1 dx mA) : ∃ od, h.get? dx = some od ∧ ∀ name, PySem.W.lookIn name od = some (mA name) := by
  obtain ⟨o, es, ep, ho, hd, hk, _, hm⟩ := n
  refine ⟨o, ho, fun name => ?_⟩
  have e := hm name
  unfold nsFind findBy at e
  rw [← Array.find?_toList] at e
  unfold PySem.W.lookIn
  rw [hd]
  dsimp only
  split
  · rename_i y q
    rw [q] at e
    exact congrArg some e
  · rename_i q
    rw [q] at e
    have a : es.toList.any (·.refKey) = false := by
      rw [List.any_eq_false]
      intro y hy
      obtain ⟨z, t, hkey⟩ := hk y (Array.mem_toList_iff.mp hy)
      simp [DictEntry.refKey, hkey]
    have a' : ¬ es.toList.any (·.refKey) = true := by rw [a]; exact Bool.false_ne_true
    rw [if_neg a']
    exact congrArg some e

theorem ObjM.look {h : Heap} {x dx C : Addr} {mA : Str → Option Value} (I : ObjM h x dx C mA) : ∃ od, PySem.W.InstAt h x (PySem.W.instObj C dx) C (some od) ∧ ∀ name, PySem.W.lookIn name od = some (mA name) :=
  let ⟨od, ho, hl⟩ := lookIn_ns I.ns
  ⟨od, ⟨I.obj, rfl, rfl, ho⟩, hl⟩

section
variable {prog : Program} {w : World} {A : Around} {E : Value → Shared → Prop} {s : Shared} {K : PySem.W.Frag} {x dx C f : Addr} {mA : Str → Option Value} {name : Str} {v : Value}

theorem get_map {expr : Bool} {Q : Value → Shared → Prop} (X : K.In s.heap) (I : ObjM s.heap x dx C mA) (hg : PySem.W.plainGet K C name = true) (hh : PySem.W.hasDictIn K C = true)
    (ha : PySem.W.findIn K (.ref C) name = some none) (hv : mA name = some v) (hv' : PySem.W.handedIn v = true) (h : Q v { s with toks := s.toks + 1 }) :
    wpAny (model prog w) A (getAttr (.ref x) name expr) Q E s := by
  obtain ⟨od, J, hl⟩ := I.look
  exact PySem.W.get_value X J (PySem.W.plainGet_of hg).1 (PySem.W.findObj_own hh ha rfl (by rw [hl, hv])) hv' h

theorem get_const {expr : Bool} {a : Value} {Q : Value → Shared → Prop} (X : K.In s.heap) (I : ObjM s.heap x dx C mA) (hg : PySem.W.plainGet K C name = true) (hh : PySem.W.hasDictIn K C = true)
    (ha : PySem.W.findIn K (.ref C) name = some (some a)) (hn : PySem.W.specialIn K a "__get__" = some none) (hc : PySem.W.copiedNames.contains name = false) (hv : mA name = none) (hv' : PySem.W.handedIn a = true)
    (h : Q a { s with toks := s.toks + 1 }) : wpAny (model prog w) A (getAttr (.ref x) name expr) Q E s := by
  obtain ⟨od, J, hl⟩ := I.look
  exact PySem.W.get_value X J (PySem.W.plainGet_of hg).1 (PySem.W.findObj_cls hh ha hn hv' hc (by rw [hl, hv])) hv' h

theorem get_meth {pl : Sem Bool} {Q : Value × List Value → Shared → Prop} (X : K.In s.heap) (I : ObjM s.heap x dx C mA) (hg : PySem.W.plainGet K C name = true)
    (hf : PySem.W.findIn K (.ref C) name = some (some (.ref f))) (ht : PySem.W.isFn K (.ref f) = true) (hv : mA name = none) (h : Q (.ref f, [.ref x]) s) :
    wpAny (model prog w) A (getMethod (.ref x) name pl) Q E s := by
  obtain ⟨od, J, hl⟩ := I.look
  exact PySem.W.method_fn X J (PySem.W.plainGet_of hg).1 (PySem.W.plainGet_of hg).2 hf (beq_iff_eq.mp ht) (by show (PySem.W.lookIn name od).map (·.isSome) = some false; rw [hl, hv]; rfl) h

theorem set_map {ns : List Str} {Q : Unit → Shared → Prop} (X : K.In s.heap) (I : ObjM s.heap x dx C mA)
    (hs : PySem.W.findIn K (.ref C) "__setattr__" = some (some (.builtin "object.__setattr__"))) (hp : PySem.W.plainOver K C = true) (ht : PySem.W.takerIn K C name = some none) (hh : PySem.W.hasDictIn K C = true)
    (hw : PySem.Within mA ns) (hsz : ns.length ≤ sizeLine)
    (h : ∀ h', ObjM h' x dx C (fun y => if y = name then some v else mA y) → Heap.SameBut dx s.heap h' → Q () { s with heap := h', toks := s.toks + 2 }) :
    wpAny (model prog w) A (setAttr (.ref x) name v) Q E s := by
  obtain ⟨od, J, hl⟩ := I.look
  refine PySem.W.set_plain X J hs (PySem.W.osa_open (s := { s with toks := s.toks + 1 }) (r := none) X J hp ht fun b => ?_)
  obtain ⟨cd, hc, hd'⟩ := PySem.W.any_some hh
  have hx : s.heap.get? x = some ⟨.ref C, some dx, .plain, #[]⟩ := I.obj
  refine wpAny_bind (wpAny_pure (wpAny_bind (wpAny_bind (wpAny_loadPart hx (wpAny_bind (PySem.W.Looks.here (s := { s with toks := s.toks + 1 }) (PySem.W.looks_clsIn X hc) ?_))))))
  rw [hd']
  refine wpAny_pure (a := some dx) (wpAny_bind (wpAny_pure (wpAny_bind ?_)))
  refine wpAny_nsSet1 (s := { s with toks := s.toks + 1 }) I.ns fun h' hn2 hs2 => ?_
  obtain ⟨oD, esD, epD, hoD, hdD, hcD⟩ := hn2.count (PySem.Within.cons name v hw)
  refine wpAny_bind (wpAny_lookBehind hoD (by rw [hdD]; exact pastItsLine_dict (Nat.le_trans hcD (by rw [List.length_cons]; omega))) ?_)
  exact wpAny_pure (h _ ⟨(hs2.2 _ (Ne.symm I.ne)).trans I.obj, hn2, I.ne⟩ hs2)

/-- C(..): the dict at the heap's end, the instance behind it; then its __init__ -/
theorem make_map {R : Result → Shared → Prop} {vs : List Value} {kw : List (Str × Value)} (X : K.In s.heap) (hm : PySem.W.makesIn K C = true)
    (hi : PySem.W.findIn K (.ref C) "__init__" = some (some (.ref f))) (hf : PySem.W.typeIn K (.ref f) = some (.type "function"))
    (h : codeAny (model prog w) (A.under (.builtin "type.__call__" ⟨.ref C :: vs, kw⟩)) (.call (.ref f) ⟨.ref (s.heap.objs.size + 1) :: vs, kw⟩) (PySem.W.InitBack (s.heap.objs.size + 1) R)
      { s with heap := (s.heap.push PySem.W.emptyDict).push (PySem.W.instObj C s.heap.objs.size) }) :
    codeAny (model prog w) A (.call (.ref C) ⟨vs, kw⟩) R s := by
  obtain ⟨hh, g, d, t, os⟩ := s
  exact PySem.W.make_core (PySem.W.makes_of X hm) (PySem.W.looks_findIn X hi) (fun self => PySem.W.bind_fn X self hf) (.inl rfl) h
/-- C() where there is no __init__ but object's -/
theorem make_map0 {R : Result → Shared → Prop} (X : K.In s.heap) (hm : PySem.W.makesIn K C = true)
    (hi : PySem.W.findIn K (.ref C) "__init__" = some (some (.builtin "object.__init__")))
    (hb : ∀ self, PySem.W.Looks (model prog w) s.heap (bindSpecial (.builtin "object.__init__") self) (.builtin "object.__init__", [self]))
    (h : codeAny (model prog w) (A.under (.builtin "type.__call__" ⟨[.ref C], []⟩)) (.call (.builtin "object.__init__") ⟨[.ref (s.heap.objs.size + 1)], []⟩) (PySem.W.InitBack (s.heap.objs.size + 1) R)
      { s with heap := (s.heap.push PySem.W.emptyDict).push (PySem.W.instObj C s.heap.objs.size) }) :
    codeAny (model prog w) A (.call (.ref C) ⟨[], []⟩) R s := by
  obtain ⟨hh, g, d, t, os⟩ := s
  exact PySem.W.make_core (PySem.W.makes_of X hm) (PySem.W.looks_findIn X hi) hb (.inr ⟨rfl, rfl⟩) h
end

/-! ### the attributes as a list of pairs -/
def putF (f : Str) (v : V) : List (Str × V) → List (Str × V)
  | [] => [(f, v)]
  | (g, x) :: r => if g = f then (g, v) :: r else (g, x) :: putF f v r
theorem lookup_putF (f g : Str) (v : V) : ∀ fs : List (Str × V), (putF f v fs).lookup g = if g = f then some v else fs.lookup g
  | [] => by
    show List.lookup g [(f, v)] = _
    by_cases h : g = f
    · have hb : (g == f) = true := beq_iff_eq.mpr h
      simp only [List.lookup, hb, if_pos h]
    · have hb : (g == f) = false := beq_eq_false_iff_ne.mpr h
      simp only [List.lookup, hb, if_neg h]
  | (k, x) :: r => by
    have ih := lookup_putF f g v r
    rw [show putF f v ((k, x) :: r) = (if k = f then (k, v) :: r else (k, x) :: putF f v r) from rfl]
    by_cases hk : k = f
    · rw [if_pos hk]
      by_cases h : g = k
      · have hb : (g == k) = true := beq_iff_eq.mpr h
        simp only [List.lookup, hb, if_pos (h.trans hk)]
      · have hb : (g == k) = false := beq_eq_false_iff_ne.mpr h
        simp only [List.lookup, hb, if_neg (fun e : g = f => h (e.trans hk.symm))]
    · rw [if_neg hk]
      by_cases h : g = k
      · have hb : (g == k) = true := beq_iff_eq.mpr h
        simp only [List.lookup, hb, if_neg (fun e : g = f => hk (h.symm.trans e))]
      · have hb : (g == k) = false := beq_eq_false_iff_ne.mpr h
        simp only [List.lookup, hb]
        exact ih
theorem keys_putF (f : Str) (v : V) : ∀ fs : List (Str × V), f ∈ (putF f v fs).map (·.1) ∧ ∀ g, g ∈ fs.map (·.1) → g ∈ (putF f v fs).map (·.1)
  | [] => ⟨by simp [putF], fun g h => by simp at h⟩
  | (k, x) :: r => by
    obtain ⟨i1, i2⟩ := keys_putF f v r
    rw [show putF f v ((k, x) :: r) = (if k = f then (k, v) :: r else (k, x) :: putF f v r) from rfl]
    by_cases hk : k = f
    · rw [if_pos hk]
      subst hk
      exact ⟨by simp, fun g h => by simpa using h⟩
    · rw [if_neg hk]
      refine ⟨?_, fun g h => ?_⟩
      · rw [List.map_cons]
        exact List.mem_cons_of_mem _ i1
      · rw [List.map_cons] at h ⊢
        rcases List.mem_cons.mp h with e | e
        · exact List.mem_cons.mpr (.inl e)
        · exact List.mem_cons_of_mem _ (i2 g e)
theorem length_putF (f : Str) (v : V) : ∀ fs : List (Str × V), (putF f v fs).length ≤ fs.length + 1
  | [] => by simp [putF]
  | (k, x) :: r => by
    have ih := length_putF f v r
    rw [show putF f v ((k, x) :: r) = (if k = f then (k, v) :: r else (k, x) :: putF f v r) from rfl]
    by_cases hk : k = f
    · rw [if_pos hk, List.length_cons, List.length_cons]; omega
    · rw [if_neg hk, List.length_cons, List.length_cons]; omega

theorem RelO.some_of {v : V} {o : Option Value} (r : RelO (some v) o) : ∃ u, o = some u ∧ RelV v u := by
  cases o with
  | none => exact (show False from r).elim
  | some u => exact ⟨u, rfl, r⟩
theorem RelO.none_of {o : Option Value} (r : RelO none o) : o = none := by
  cases o with
  | none => rfl
  | some u => exact (show False from r).elim
theorem handed_of {v : V} {u : Value} (r : RelV v u) : PySem.W.handedIn u = true := by
  cases v with
  | non => cases (show u = Value.none from r); rfl
  | bl b => cases (show u = Value.bool b from r); rfl
  | int i => obtain ⟨t, e⟩ := (show ∃ t, u = Value.int i t from r); cases e; rfl
  | str x => obtain ⟨t, e⟩ := (show ∃ t, u = Value.str x t from r); cases e; rfl
  | byt b => obtain ⟨t, e⟩ := (show ∃ t, u = Value.bytes b t from r); cases e; rfl
  | flt b => obtain ⟨t, e⟩ := (show ∃ t, u = Value.float b t from r); cases e; rfl
  | ref a => cases (show u = Value.ref a from r); rfl
  | ty n => cases (show u = Value.type n from r); rfl

section
variable {P : Program} {w : World} {H H' : Hp} {h h' : Heap} {a C dx : Addr} {fs fs' : List (Str × V)}
theorem ins_get (hok : HOk P w H h) (e : H a = some (.ins C dx fs)) : ∃ mA, ObjM h a dx C mA ∧ (∀ f, RelO (fs.lookup f) (mA f)) ∧ PySem.Within mA (fs.map (·.1)) ∧ fs.length ≤ 1000 ∧ H dx = some (.own a) := by
  obtain ⟨d, z, ne, ob, mA, n, r, q⟩ := (show ObjOk P w H h a (.ins C dx fs) from hok a _ e)
  exact ⟨mA, ⟨ob, n, ne⟩, r, q, z, d⟩
end

/-! ### what of the text a class must have -/
structure Cls (K : PySem.W.Frag) (C : Addr) : Prop where
  pg : PySem.W.plainGet K C Str.empty = true
  hd : PySem.W.hasDictIn K C = true
  po : PySem.W.plainOver K C = true
  sa : PySem.W.findIn K (.ref C) "__setattr__" = some (some (.builtin "object.__setattr__"))
theorem Cls.get {K : PySem.W.Frag} {C : Addr} (c : Cls K C) (f : Str) : PySem.W.plainGet K C f = true := c.pg
/-- no class of it has the name -/
def NoAttr (K : PySem.W.Frag) (C : Addr) (f : Str) : Prop := PySem.W.findIn K (.ref C) f = some none
theorem NoAttr.taker {K : PySem.W.Frag} {C : Addr} {f : Str} (n : NoAttr K C f) : PySem.W.takerIn K C f = some none := by
  unfold PySem.W.takerIn
  rw [show PySem.W.findIn K (.ref C) f = some none from n]
  rfl
/-- a constant of the class -/
structure Con (K : PySem.W.Frag) (C : Addr) (f : Str) (v : V) (u : Value) : Prop where
  at_ : PySem.W.findIn K (.ref C) f = some (some u)
  rel : RelV v u
  get : PySem.W.specialIn K u "__get__" = some none
  cp : PySem.W.copiedNames.contains f = false
/-- a method: a plain def of the class or of one above it -/
structure Meth (K : PySem.W.Frag) (C : Addr) (m : Str) (f : Addr) : Prop where
  at_ : PySem.W.findIn K (.ref C) m = some (some (.ref f))
  fn : PySem.W.isFn K (.ref f) = true
  kp : PySem.W.keepIn K (.ref f) = true

section
variable {X : Cx} {pins : List (Addr × Obj)} {σ : St} {H : Hp} {s : Shared} {a C dx : Addr} {fs : List (Str × V)} {f : Str} {v : V} {A : Around} {E : Value → Shared → Prop}

theorem getattr_ok {b : Bool} {Q : Value → Shared → Prop} (I : Inv X pins σ H s) (e : H a = some (.ins C dx fs)) (c : Cls X.K C) (n : NoAttr X.K C f) (l : fs.lookup f = some v)
    (h : ∀ u s', Inv X pins σ H s' → RelV v u → Q u s') : wpAny (model X.prog X.w) A (getAttr (.ref a) f b) Q E s := by
  obtain ⟨mA, O, r, _, _, _⟩ := ins_get I.hok e
  obtain ⟨u, hu, ru⟩ := RelO.some_of (v := v) (o := mA f) (by rw [← l]; exact r f)
  exact get_map I.kIn O (c.get f) c.hd n hu (handed_of ru) (h u _ (I.tok _) ru)

theorem getcon_ok {b : Bool} {u : Value} {Q : Value → Shared → Prop} (I : Inv X pins σ H s) (e : H a = some (.ins C dx fs)) (c : Cls X.K C) (k : Con X.K C f v u) (l : fs.lookup f = none)
    (h : ∀ s', Inv X pins σ H s' → Q u s') : wpAny (model X.prog X.w) A (getAttr (.ref a) f b) Q E s := by
  obtain ⟨mA, O, r, _, _, _⟩ := ins_get I.hok e
  have hn : mA f = none := RelO.none_of (by rw [← l]; exact r f)
  exact get_const I.kIn O (c.get f) c.hd k.at_ k.get k.cp hn (handed_of k.rel) (h _ (I.tok _))

theorem getmeth_ok {m : Str} {g : Addr} {pl : Sem Bool} {Q : Value × List Value → Shared → Prop} (I : Inv X pins σ H s) (e : H a = some (.ins C dx fs)) (c : Cls X.K C) (k : Meth X.K C m g) (l : fs.lookup m = none)
    (h : Q (.ref g, [.ref a]) s) : wpAny (model X.prog X.w) A (getMethod (.ref a) m pl) Q E s := by
  obtain ⟨mA, O, r, _, _, _⟩ := ins_get I.hok e
  have hn : mA m = none := RelO.none_of (by rw [← l]; exact r m)
  exact get_meth I.kIn O (c.get m) k.at_ k.fn hn h

theorem setattr_ok {y : V} {u : Value} {Q : Unit → Shared → Prop} (I : Inv X pins σ H s) (e : H a = some (.ins C dx fs)) (c : Cls X.K C) (n : NoAttr X.K C f) (hl : fs.length < 1000) (ry : RelV y u)
    (h : ∀ s', Inv X pins σ (upd H a (.ins C dx (putF f y fs))) s' → Q () s') : wpAny (model X.prog X.w) A (setAttr (.ref a) f u) Q E s := by
  obtain ⟨mA, O, r, wi, _, ho⟩ := ins_get I.hok e
  have hz : (fs.map (·.1)).length ≤ sizeLine := by rw [List.length_map, sizeLine_eq]; omega
  refine set_map I.kIn O c.sa c.po n.taker c.hd wi hz fun h' O' sb => h _ ?_
  have hd : ∃ o, h'.get? dx = some o := let ⟨o, _, _, e', _⟩ := O'.ns; ⟨o, e'⟩
  refine I.write (x := a) (e := dx) (by rw [e]; exact True.intro) (.inr ho) (fun b q hb z => (sb.2 b hb).trans z) hd ?_
  refine ⟨by rw [upd_ne O.ne]; exact ho, ?_, O.ne, O'.obj, _, O'.ns, fun g => ?_, fun g hg => ?_⟩
  · have := length_putF f y fs; omega
  · show RelO ((putF f y fs).lookup g) (if g = f then some u else mA g)
    rw [lookup_putF]
    by_cases q : g = f
    · rw [if_pos q, if_pos q]; exact ry
    · rw [if_neg q, if_neg q]; exact r g
  · by_cases q : g = f
    · rw [q]; exact (keys_putF f y fs).1
    · refine (keys_putF f y fs).2 g (wi g fun z => hg ?_)
      show (if g = f then some u else mA g) = none
      rw [if_neg q]; exact z

/-- a new instance, tracked, without attributes -/
theorem Inv.made (I : Inv X pins σ H s) : Inv X pins σ (upd (upd H s.heap.objs.size (.own (s.heap.objs.size + 1))) (s.heap.objs.size + 1) (.ins C s.heap.objs.size []))
    { s with heap := (s.heap.push PySem.W.emptyDict).push (PySem.W.instObj C s.heap.objs.size) } := by
  have e1 : (s.heap.push PySem.W.emptyDict).get? s.heap.objs.size = some PySem.W.emptyDict := Heap.get?_push_size s.heap rfl
  have e2 : ((s.heap.push PySem.W.emptyDict).push (PySem.W.instObj C s.heap.objs.size)).get? (s.heap.objs.size + 1) = some (PySem.W.instObj C s.heap.objs.size) := by
    have := Heap.get?_push_size (s.heap.push PySem.W.emptyDict) (o := PySem.W.instObj C s.heap.objs.size) rfl
    rwa [Heap.size_push] at this
  have e3 : (s.heap.push PySem.W.emptyDict).Ns s.heap.objs.size (fun _ => none) := ⟨PySem.W.emptyDict, #[], _, e1, rfl, (fun e he => absurd he (by simp)), fun _ => rfl⟩
  have I1 := I.laid (a := s.heap.objs.size) (o := .own (s.heap.objs.size + 1)) (h' := s.heap.push PySem.W.emptyDict) (t' := s.toks) (fun b u q => Heap.get?_push_of_some _ q) (Nat.le_refl _) ⟨_, e1⟩
  refine I1.laid (a := s.heap.objs.size + 1) (o := .ins C s.heap.objs.size []) (t' := s.toks) (fun b u q => Heap.get?_push_of_some _ q) (Nat.le_of_eq (Heap.size_push _ _)) ?_
  have ne : s.heap.objs.size ≠ s.heap.objs.size + 1 := Nat.ne_of_lt (Nat.lt_succ_self _)
  refine ⟨by rw [upd_ne ne, upd_same], Nat.zero_le _, ne, e2, fun _ => none, (Heap.Ns1.of_empty e3).at fun o q => Heap.get?_push_of_some _ q, fun _ => True.intro, fun y hy => absurd rfl hy⟩

/-- e.f where nothing but the object is asked: through attributeBase (super) and the last hold -/
theorem attr_of {prog : Program} {w : World} {env : Env} {e : Expr} {f : Str} {pos : Pos} {s : Shared} {Q : Value → Shared → Prop} (hb : attributeBase e f env (eval e env) = eval e env)
    (h : wpAny (model prog w) A (eval e env) (fun o s₁ => wpAny (model prog w) A (getAttr o f true) Q E s₁) E s) : wpAny (model prog w) A (eval (.Attribute e f pos) env) Q E s :=
  Attribute_any_ h (by rw [arm_eval_Attribute, hb])
end

/-! ### readings and rules -/
/-- e.f, an attribute of the instance -/
def tFld (K : PySem.W.Frag) (ta : TE) (f : Str) : TE := fun σ H Q => ta σ H fun x H1 => ∃ a C dx fs v, x = .ref a ∧ H1 a = some (.ins C dx fs) ∧ Cls K C ∧ NoAttr K C f ∧ fs.lookup f = some v ∧ Q v H1
/-- e.f, a constant of the class -/
def tCon (K : PySem.W.Frag) (ta : TE) (f : Str) : TE := fun σ H Q => ta σ H fun x H1 => ∃ a C dx fs v u, x = .ref a ∧ H1 a = some (.ins C dx fs) ∧ Cls K C ∧ Con K C f v u ∧ fs.lookup f = none ∧ Q v H1
/-- e.f = value -/
def sFld (K : PySem.W.Frag) (ta tv : TE) (f : Str) : TS := fun D σ H => tv σ H fun y H1 => ta σ H1 fun x H2 => ∃ a C dx fs, x = .ref a ∧ H2 a = some (.ins C dx fs) ∧ Cls K C ∧ NoAttr K C f ∧ fs.length < 1000 ∧
  D.nx σ (upd H2 a (.ins C dx (putF f y fs)))
/-- an augmented operator on two values -/
def InOp (X : Cx) (op : Operator) (rd : V → V → Hp → VK → Prop) : Prop :=
  ∀ (pins : List (Addr × Obj)) (s : Shared) (σ : St) (H : Hp) (x y : V) (u v : Value) (Q : VK), Inv X pins σ H s → RelV x u → RelV y v → rd x y H Q → wpAny (model X.prog X.w) X.A (inplaceOp op u v) (EP X pins σ Q) X.xe s
/-- e.f op= value -/
def sFldAug (K : PySem.W.Frag) (ta tv : TE) (rd : V → V → Hp → VK → Prop) (f : Str) : TS := fun D σ H => ta σ H fun x H1 => ∃ a C dx fs v, x = .ref a ∧ H1 a = some (.ins C dx fs) ∧ Cls K C ∧ NoAttr K C f ∧ fs.lookup f = some v ∧
  tv σ H1 fun y H2 => rd v y H2 fun z H3 => ∃ dx' fs', H3 a = some (.ins C dx' fs') ∧ fs'.length < 1000 ∧ D.nx σ (upd H3 a (.ins C dx' (putF f z fs')))

section
variable {X : Cx} {o e value : Expr} {f : Str} {pos pos' tpos : Pos} {ta tv : TE}
theorem pe_fld (he : PE X e ta) (hb : attributeBase e f X.env (eval e X.env) = eval e X.env) : PE X (.Attribute e f pos) (tFld X.K ta f) := by
  intro pins s σ H Q I h
  refine attr_of hb (thn (he pins s σ H _ I h) fun u s1 ⟨x, H1, I1, rx, a, C, dx, fs, v, ex, ea, c, n, l, q⟩ => ?_)
  subst ex
  obtain rfl : u = Value.ref a := rx
  exact getattr_ok I1 ea c n l fun u' s2 I2 ru => ⟨v, H1, I2, ru, q⟩
theorem pe_con (he : PE X e ta) (hb : attributeBase e f X.env (eval e X.env) = eval e X.env) : PE X (.Attribute e f pos) (tCon X.K ta f) := by
  intro pins s σ H Q I h
  refine attr_of hb (thn (he pins s σ H _ I h) fun u s1 ⟨x, H1, I1, rx, a, C, dx, fs, v, u0, ex, ea, c, k, l, q⟩ => ?_)
  subst ex
  obtain rfl : u = Value.ref a := rx
  exact getcon_ok I1 ea c k l fun s2 I2 => ⟨v, H1, I2, k.rel, q⟩
theorem ps_fld (ha : PE X o ta) (hv : PE X value tv) (hs : swapsWith value (some (.Attribute o f pos')) pos.line X.env = pure false) : PS X (.Assign [.Attribute o f pos'] value pos) (sFld X.K ta tv f) := by
  intro pins s σ H D I h
  refine plainObj_wpAny_Assign_Attribute (thn (hv pins s σ H _ I h) fun u s1 ⟨y, H1, I1, ry, q⟩ => thn (ha pins s1 σ H1 _ I1 q) fun ov s2 ⟨x, H2, I2, rx, a, C, dx, fs, ex, ea, c, n, l, q2⟩ => ?_) hs
  subst ex
  obtain rfl : ov = Value.ref a := rx
  exact setattr_ok I2 ea c n l ry fun s3 I3 => ⟨σ, _, I3, q2⟩
theorem ps_fldaug {op : Operator} {rd : V → V → Hp → VK → Prop} (ha : PE X o ta) (hv : PE X value tv) (hop : InOp X op rd) : PS X (.AugAssign (.Attribute o f tpos) op value pos) (sFldAug X.K ta tv rd f) := by
  intro pins s σ H D I h
  refine wpAny_AugAssign_AttributeAny (thn (ha pins s σ H _ I h) fun ov s1 ⟨x, H1, I1, rx, a, C, dx, fs, v, ex, ea, c, n, l, q⟩ => ?_)
  subst ex
  obtain rfl : ov = Value.ref a := rx
  refine getattr_ok I1 ea c n l fun u s2 I2 ru => thn (hv pins s2 σ H1 _ I2 q) fun w3 s3 ⟨y, H2, I3, ry, q3⟩ => thn (hop pins s3 σ H2 v y u w3 _ I3 ru ry q3) fun w4 s4 ⟨z, H3, I4, rz, dx', fs', ea', l', q4⟩ => ?_
  exact setattr_ok I4 ea' c n l' rz fun s5 I5 => ⟨σ, _, I5, q4⟩
def rAdd : V → V → Hp → VK → Prop := fun x y H Q => ∃ i j, x = .int i ∧ y = .int j ∧ Q (.int (i + j)) H
def rSub : V → V → Hp → VK → Prop := fun x y H Q => ∃ i j, x = .int i ∧ y = .int j ∧ Q (.int (i - j)) H
theorem in_add : InOp X .Add rAdd := by
  rintro pins s σ H x y u v Q I rx ry ⟨i, j, rfl, rfl, q⟩
  obtain ⟨t, rfl⟩ := (show ∃ t, u = Value.int i t from rx)
  obtain ⟨t', rfl⟩ := (show ∃ t', v = Value.int j t' from ry)
  exact PyProof.Rows.iadd_int ⟨.int (i + j), H, I.tok _, ⟨_, rfl⟩, q⟩
theorem in_sub : InOp X .Sub rSub := by
  rintro pins s σ H x y u v Q I rx ry ⟨i, j, rfl, rfl, q⟩
  obtain ⟨t, rfl⟩ := (show ∃ t, u = Value.int i t from rx)
  obtain ⟨t', rfl⟩ := (show ∃ t', v = Value.int j t' from ry)
  exact PyProof.Rows.isub_int ⟨.int (i - j), H, I.tok _, ⟨_, rfl⟩, q⟩

/-- what is between an instance and its method: the tree of a method call -/
theorem methcall_of {pl : Sem Bool} {m : Str} {apos : Pos} {args : List Expr} {pins : List (Addr × Obj)} {s : Shared} {σ : St} {H : Hp} {Q : Value → Shared → Prop} {te : TE} (he : PE X e te) (I : Inv X pins σ H s)
    (h : te σ H fun x H1 => ∃ a C dx fs g, x = .ref a ∧ H1 a = some (.ins C dx fs) ∧ Cls X.K C ∧ Meth X.K C m g ∧ fs.lookup m = none ∧
      ∀ s1, Inv X pins σ H1 s1 → wpAny (model X.prog X.w) X.A (callWith pos (.ref g) [.ref a] (backTo pos (starEach args X.env)) (backToKw pos (keywordEach [] X.env))) Q X.xe s1)
    (ht : eval (.Call (.Attribute e m apos) args [] pos) X.env = (do
      let ov ← eval e X.env
      standAt apos.atName
      let (f, first) ← holding [ov] (getMethod ov m pl)
      callWith pos f first (backTo pos (starEach args X.env)) (backToKw pos (keywordEach [] X.env)))) :
    wpAny (model X.prog X.w) X.A (eval (.Call (.Attribute e m apos) args [] pos) X.env) Q X.xe s := by
  refine PySem.W.methodCall_KW (pl := pl) (thn (he pins s σ H _ I h) fun u s1 ⟨x, H1, I1, rx, a, C, dx, fs, g, ex, ea, c, k, l, q⟩ => ?_) ht
  subst ex
  obtain rfl : u = Value.ref a := rx
  exact getmeth_ok I1 ea c k l (q s1 I1)
end

/-! ### isinstance -/
section
variable {X : Cx} {pins : List (Addr × Obj)} {σ : St} {H : Hp} {s : Shared} {A : Around} {E : Value → Shared → Prop} {Q : Value → Shared → Prop} {c : Value} {b : Bool}
/-- the type of a value, as the fragment's deciders take it; for an instance its class -/
inductive TyOf (K : PySem.W.Frag) (H : Hp) : V → Value → Prop where
  | non : TyOf K H .non (.type "NoneType")
  | bl (x : Bool) : TyOf K H (.bl x) (.type "bool")
  | int (i : Int) : TyOf K H (.int i) (.type "int")
  | str (x : Str) : TyOf K H (.str x) (.type "str")
  | flt (x : UInt64) : TyOf K H (.flt x) (.type "float")
  | lst {a : Addr} {xs : List V} (e : H a = some (.lst xs)) : TyOf K H (.ref a) (.type "list")
  | frz {a : Addr} {o : Obj} {xs : List V} (e : H a = some (.frz o (.lst xs))) : TyOf K H (.ref a) (.type "list")
  | tup {a : Addr} {xs : List V} (e : H a = some (.tup xs)) : TyOf K H (.ref a) (.type "tuple")
  | dK {a : Addr} {kvs : List (Key × V)} (e : H a = some (.dK kvs)) : TyOf K H (.ref a) (.type "dict")
  | dT {a : Addr} {kvs : List (List Key × V)} (e : H a = some (.dT kvs)) : TyOf K H (.ref a) (.type "dict")
  | ins {a C dx : Addr} {fs : List (Str × V)} (e : H a = some (.ins C dx fs)) (cl : Cls K C) (ha : PySem.W.findIn K (.ref C) "__class__" = some (some (.builtin "object.__class__")))
      (hn : PySem.W.specialIn K (.builtin "object.__class__") "__get__" = some (some (.builtin "getset_descriptor.__get__"))) (htk : PySem.W.takesIn K (.builtin "object.__class__") = some true)
      (hm : PySem.W.mroIn K C (.type "object") = some true) : TyOf K H (.ref a) (.ref C)
/-- isinstance(x, c) for one class c, a built-in or an own one: kitOne's answer -/
theorem isinst_ok {x : V} {u t : Value} (I : Inv X pins σ H s) (rx : RelV x u) (ty : TyOf X.K H x t) (e : PySem.W.kitOne X.K t c = some b) (h : ∀ tk, Q (.bool b) { s with toks := tk }) :
    wpAny (model X.prog X.w) A (call (.builtin "isinstance") [u, c]) Q E s := by
  cases ty with
  | non => cases (show u = Value.none from rx); exact PySem.W.kia_one PySem.W.kitx_none I.kIn True.intro e (fun z => nomatch z) h
  | bl y => cases (show u = Value.bool y from rx); exact PySem.W.kia_one PySem.W.kitx_bool I.kIn True.intro e (fun z => nomatch z) h
  | int i => obtain ⟨t, q⟩ := (show ∃ t, u = Value.int i t from rx); cases q; exact PySem.W.kia_one PySem.W.kitx_int I.kIn True.intro e (fun z => nomatch z) h
  | str y => obtain ⟨t, q⟩ := (show ∃ t, u = Value.str y t from rx); cases q; exact PySem.W.kia_one PySem.W.kitx_str I.kIn True.intro e (fun z => nomatch z) h
  | flt y => obtain ⟨t, q⟩ := (show ∃ t, u = Value.float y t from rx); cases q; exact PySem.W.kia_one PySem.W.kitx_float I.kIn True.intro e (fun z => nomatch z) h
  | @lst a xs ea =>
    cases (show u = Value.ref a from rx)
    obtain ⟨_, _, n, _, h1⟩ := (show ObjOk X.prog X.w H s.heap a (.lst xs) from I.hok a _ ea)
    exact PySem.W.kia_one PySem.W.kitx_list I.kIn ⟨_, h1, rfl⟩ e (fun z => nomatch z) h
  | @frz a ob xs ea =>
    cases (show u = Value.ref a from rx)
    obtain ⟨_, _, _, n, _, h1⟩ := (show ObjOk X.prog X.w H s.heap a (.frz ob (.lst xs)) from I.hok a _ ea)
    exact PySem.W.kia_one PySem.W.kitx_list I.kIn ⟨_, h1, rfl⟩ e (fun z => nomatch z) h
  | @tup a xs ea =>
    cases (show u = Value.ref a from rx)
    obtain ⟨_, _, _, p⟩ := (show ObjOk X.prog X.w H s.heap a (.tup xs) from I.hok a _ ea)
    obtain ⟨o, h1, h2, _⟩ := p
    exact PySem.W.kia_one PySem.W.kitx_tuple I.kIn ⟨o, h1, h2⟩ e (fun z => nomatch z) h
  | @dK a kvs ea =>
    cases (show u = Value.ref a from rx)
    obtain ⟨_, _, vs, _, p⟩ := (show ObjOk X.prog X.w H s.heap a (.dK kvs) from I.hok a _ ea)
    obtain ⟨o, es, ep, h1, h2, _⟩ := p
    exact PySem.W.kia_one PySem.W.kitx_dict I.kIn ⟨o, h1, h2.1⟩ e (fun z => nomatch z) h
  | @dT a kvs ea => exact False.elim (show ObjOk X.prog X.w H s.heap a (.dT kvs) from I.hok a _ ea)
  | @ins a C dx fs ea cl ha hn htk hm =>
    cases (show u = Value.ref a from rx)
    obtain ⟨mA, O, _⟩ := ins_get I.hok ea
    obtain ⟨od, J, _⟩ := O.look
    exact PySem.W.kia_one (PySem.W.kitx_own (cl.get _) cl.hd ha hn htk hm) I.kIn J e (fun z => nomatch z) h
end
end L2

namespace L2
open PySem PySem.Spec PyProof.Rows

/-! ### room -/
structure Room (k : Nat) (A : Around) : Prop where
  hd : A.handled = none
  dp : A.depth + 3 * k + 5 < recursionLimit
  un : A.units + 16 * k + 200 < cLine
theorem Room.mono {j k : Nat} {A : Around} (r : Room k A) (h : j ≤ k) : Room j A := ⟨r.hd, by have := r.dp; omega, by have := r.un; omega⟩
theorem Room.deeper {k : Nat} {A : Around} (r : Room (k + 1) A) (env : Env) : Room k (A.deeper env) :=
  ⟨r.hd, by have := r.dp; show A.depth + 1 + 3 * k + 5 < _; omega, by have := r.un; show A.units + 3 + 16 * k + 200 < _; omega⟩
theorem Room.in1 {k : Nat} {A : Around} (r : Room (k + 1) A) : Room k A.in1 :=
  ⟨r.hd, by have := r.dp; show A.depth + 3 * k + 5 < _; omega, by have := r.un; show A.units + 1 + 16 * k + 200 < _; omega⟩
theorem make_depth {A : Around} {C : Addr} {us : List Value} {kw : List (Str × Value)} : (A.under (.builtin "type.__call__" ⟨.ref C :: us, kw⟩)).depth = A.depth + 1 := by
  first | rfl | simp [Around.under, Code.weight, Code.isCreation, Code.isGuard, Code.isCaller, Code.frames, Code.isFrame, guardIds]
theorem make_units {A : Around} {C : Addr} {us : List Value} {kw : List (Str × Value)} : (A.under (.builtin "type.__call__" ⟨.ref C :: us, kw⟩)).units = A.units + 1 := by
  first | rfl | simp [Around.under, Code.cUnits, Code.frames, Code.isFrame]
theorem Room.make {k : Nat} {A : Around} (r : Room (k + 1) A) (C : Addr) (us : List Value) (kw : List (Str × Value)) : Room k (A.under (.builtin "type.__call__" ⟨.ref C :: us, kw⟩)) :=
  ⟨r.hd, by have := r.dp; rw [make_depth]; omega, by have := r.un; rw [make_units]; omega⟩
theorem Room.depth {k : Nat} {A : Around} (r : Room k A) : A.depth < recursionLimit := by have := r.dp; omega
theorem Room.units {k : Nat} {A : Around} (r : Room k A) : A.units + 64 < cLine := by have := r.un; omega
theorem Room.units0 {k : Nat} {A : Around} (r : Room k A) : A.units < cLine := by have := r.un; omega

/-! ### argument lists and displays -/
def tNil : TA := fun _ H Q => Q [] H
def tCons (ta : TE) (tr : TA) : TA := fun σ H Q => ta σ H fun x H1 => tr σ H1 fun xs H2 => Q (x :: xs) H2
section
variable {X : Cx} {e : Expr} {es : List Expr} {te : TE} {t : TA} {pos : Pos}
theorem pa_nil : PA X [] tNil := fun _ _ _ _ H Q I h => Calls.spliced_nil ⟨[], H, I, .nil, h⟩
theorem pa_cons (ha : PE X e te) (hr : PA X es t) (hs : starEach (e :: es) X.env = (false, eval e X.env) :: starEach es X.env := by rfl) : PA X (e :: es) (tCons te t) := by
  intro pos pins s σ H Q I h
  rw [hs]
  show wpAny _ _ (spliced ((false, eval e X.env) :: backTo pos (starEach es X.env))) _ _ s
  refine Calls.spliced_cons (thn (ha pins s σ H _ I h) fun u s1 ⟨x, H1, I1, r1, q1⟩ => ?_)
  exact thn (hr pos pins s1 σ H1 _ I1 q1) fun us s2 ⟨xs, H2, I2, r2, q2⟩ => ⟨x :: xs, H2, I2, .cons r1 r2, q2⟩

/-- a tuple, a list of written items -/
def tTup (t : TA) : TE := fun σ H Q => t σ H fun xs H1 => xs.length ≤ sizeLine ∧ ∀ p, H1 p = none → Q (.ref p) (upd H1 p (.tup xs))
def tLst (t : TA) : TE := fun σ H Q => t σ H fun xs H1 => xs.length ≤ sizeLine ∧ ∀ p, H1 p = none → Q (.ref p) (upd H1 p (.lst xs))
theorem pe_tup {x1} (h : PA X es t) : PE X (.Tuple es x1 pos) (tTup t) := by
  intro pins s σ H Q I hq
  refine wpAny_Tuple_spliced (thn (h pos pins s σ H _ I hq) fun us s1 ⟨xs, H1, I1, r, z, q⟩ => ⟨by rw [← r.length]; exact z, ?_⟩)
  have hf : H1 s1.heap.objs.size = none := I1.hok.fresh (Nat.le_refl _)
  refine ⟨.ref s1.heap.objs.size, upd H1 s1.heap.objs.size (.tup xs), I1.laid (t' := s1.toks) (fun b u e => Heap.get?_push_of_some _ e) (Nat.le_refl _) ?_, rfl, q _ hf⟩
  exact ⟨z, us, r, ⟨_, Heap.get?_push_size _ rfl, rfl, _, rfl⟩⟩
theorem pe_lst (h : PA X es t) : PE X (.List es pos) (tLst t) := by
  intro pins s σ H Q I hq
  refine wpAny_List_spliced (thn (h pos pins s σ H _ I hq) fun us s1 ⟨xs, H1, I1, r, z, q⟩ => ⟨by rw [← r.length]; exact z, ?_⟩)
  have hf : H1 s1.heap.objs.size = none := I1.hok.fresh (Nat.le_refl _)
  refine ⟨.ref s1.heap.objs.size, upd H1 s1.heap.objs.size (.lst xs), I1.laid (t' := s1.toks) (fun b u e => Heap.get?_push_of_some _ e) (Nat.le_refl _) ?_, rfl, q _ hf⟩
  exact ⟨z, us, 0, r, Heap.get?_push_size _ rfl⟩
end

/-! ### what a def promises -/
/-- a def's promise: the bound arguments in the parameters' order, the heap, the wanted end, the wanted exception -/
abbrev Sp := List V → Hp → VK → XK → Prop
/-- how an exception lies behind a call (file 08 gives it): the callers' frames, abstract heap and state ahead of the call, the wish, the exception, the state -/
abbrev CXT := List Env → Hp → Shared → XK → Value → Shared → Prop

/-- the state at a call -/
structure Env0 (P : Program) (w : World) (K : PySem.W.Frag) (mg : Str → Option Value) (base : Heap) (A : Around) (outer : List Env) (s : Shared) (H : Hp) : Prop where
  frames : A.frames = some outer
  mod : Mod K mg base
  bs : ∀ b o, base.get? b = some o → s.heap.get? b = some o ∧ H b = none
  bsz : base.objs.size ≤ s.heap.objs.size
  funs : s.heap.FunFrames base outer
  frf : ∀ b ∈ frs outer, H b = none
  hok : HOk P w H s.heap
  bare : AllBare s.gens
/-- a call's end -/
def CE (outer : List Env) (P : Program) (w : World) (H : Hp) (s : Shared) (Q : VK) (u : Value) (s' : Shared) : Prop :=
  ∃ v H', s'.os = s.os ∧ AllBare s'.gens ∧ Un (frs outer) [] H H' s.heap s'.heap ∧ HOk P w H' s'.heap ∧ RelV v u ∧ Q v H'
def CR (CX : CXT) (outer : List Env) (P : Program) (w : World) (H : Hp) (s : Shared) (Q : VK) (E : XK) (r : Result) (s' : Shared) : Prop :=
  match r with
  | .ok (.ret u) => CE outer P w H s Q u s'
  | .ok _ => False
  | .error e => CX outer H s E e s'
structure FnOk (P : Program) (w : World) (K : PySem.W.Frag) (mg : Str → Option Value) (base : Heap) (CX : CXT) (k : Nat) (f : Addr) (fd : FuncData) (ps : List Str) (sp : Sp) : Prop where
  len : ∀ vs H Q E, sp vs H Q E → vs.length = ps.length
  run : ∀ (A : Around) (outer : List Env) (s : Shared) (H : Hp) (args : Args) (us : List Value) (vs : List V) (Q : VK) (E : XK), Room k A → Env0 P w K mg base A outer s H → BindsTo s fd args (ps.zip us) → Vals vs us → sp vs H Q E →
    codeAny (model P w) A (.call (.ref f) args) (CR CX outer P w H s Q E) s
theorem FnOk.mono {P : Program} {w : World} {K : PySem.W.Frag} {mg : Str → Option Value} {base : Heap} {CX : CXT} {j k : Nat} {f : Addr} {fd : FuncData} {ps : List Str} {sp : Sp} (F : FnOk P w K mg base CX j f fd ps sp) (h : j ≤ k) :
    FnOk P w K mg base CX k f fd ps sp := ⟨F.len, fun A outer s H args us vs Q E hr => F.run A outer s H args us vs Q E (hr.mono h)⟩
/-- a weaker promise -/
theorem FnOk.imp {P : Program} {w : World} {K : PySem.W.Frag} {mg : Str → Option Value} {base : Heap} {CX : CXT} {k : Nat} {f : Addr} {fd : FuncData} {ps : List Str} {sp sp' : Sp} (F : FnOk P w K mg base CX k f fd ps sp)
    (h : ∀ vs H Q E, sp' vs H Q E → sp vs H Q E) : FnOk P w K mg base CX k f fd ps sp' :=
  ⟨fun vs H Q E q => F.len vs H Q E (h _ _ _ _ q), fun A outer s H args us vs Q E hr he hb hv hs => F.run A outer s H args us vs Q E hr he hb hv (h _ _ _ _ hs)⟩

theorem Env0.make {P : Program} {w : World} {K : PySem.W.Frag} {mg : Str → Option Value} {base : Heap} {A : Around} {outer : List Env} {s : Shared} {H : Hp} (e : Env0 P w K mg base A outer s H) (C : Addr) (us : List Value) (kw : List (Str × Value)) :
    Env0 P w K mg base (A.under (.builtin "type.__call__" ⟨.ref C :: us, kw⟩)) outer s H := ⟨by first | exact e.frames | (simpa [Around.under, Code.envs, Code.isFrame, pushEnvs] using e.frames), e.mod, e.bs, e.bsz, e.funs, e.frf, e.hok, e.bare⟩
theorem Env0.in1 {P : Program} {w : World} {K : PySem.W.Frag} {mg : Str → Option Value} {base : Heap} {A : Around} {outer : List Env} {s : Shared} {H : Hp} (e : Env0 P w K mg base A outer s H) :
    Env0 P w K mg base A.in1 outer s H := ⟨e.frames, e.mod, e.bs, e.bsz, e.funs, e.frf, e.hok, e.bare⟩

section
variable {X : Cx} {pins : List (Addr × Obj)} {σ : St} {H : Hp} {s s' : Shared}
/-- from a body: what a callee wants -/
theorem Inv.env0 (I : Inv X pins σ H s) : Env0 X.prog X.w X.K X.mg X.base X.A X.stack s H :=
  ⟨I.ok.frames, I.ok.mod, I.bs, Nat.le_trans I.ok.bsz I.sz, I.stack, I.stkFree, I.hok, I.bare⟩
/-- behind a call -/
theorem Inv.after {Q : VK} {u : Value} (I : Inv X pins σ H s) (h : CE X.stack X.prog X.w H s Q u s') : EP X pins σ Q u s' := by
  obtain ⟨v, H', os, bare, un, hok, r, q⟩ := h
  obtain ⟨hh, g, d, t, os'⟩ := s'
  obtain rfl : os' = s.os := os
  exact ⟨v, H', I.call (h' := hh) (g' := g) (d' := d) (t' := t) (ch := []) un hok bare (fun b z => absurd z (by simp)), r, q⟩
end

/-! ### calls -/
/-- f(..): the written arguments, then the defaults dvs; E: what is wanted of an exception -/
def tCall (sp : Sp) (dvs : List V) (E : XK) (t : TA) : TE := fun σ H Q => t σ H fun vs H1 => sp (vs ++ dvs) H1 Q E
/-- o.m(..) of an instance of the class at C -/
def tMeth (C : Addr) (m : Str) (sp : Sp) (dvs : List V) (E : XK) (ta : TE) (t : TA) : TE := fun σ H Q => ta σ H fun x H1 => ∃ a dx fs, x = .ref a ∧ H1 a = some (.ins C dx fs) ∧ fs.lookup m = none ∧
  t σ H1 fun vs H2 => sp (x :: (vs ++ dvs)) H2 Q E
/-- C(..): a new instance and its dict, then __init__ -/
def tMake (C : Addr) (sp : Sp) (dvs : List V) (E : XK) (t : TA) : TE := fun σ H Q => t σ H fun vs H1 => ∀ x dx, H1 x = none → H1 dx = none → dx ≠ x →
  sp (.ref x :: (vs ++ dvs)) (upd (upd H1 dx (.own x)) x (.ins C dx [])) (fun v H2 => v = .non ∧ Q (.ref x) H2) E

/-- how the parameters are bound: us the positional arguments, kw the keywords' values by name, ds the defaults that fill up -/
def Binds (K : PySem.W.Frag) (fd : FuncData) (ps : List Str) (ds : List Value) : Prop :=
  ∀ (s : Shared) (us : List Value), K.In s.heap → (us ++ ds).length = ps.length → BindsTo s fd ⟨us, []⟩ (ps.zip (us ++ ds))
/-- every parameter is given -/
theorem Binds.all {K : PySem.W.Frag} {fd : FuncData} {ps : List Str} (h : ∀ us : List Value, us.length = ps.length → bindArgs fd ⟨us, []⟩ = pure (ps.zip us)) : Binds K fd ps [] := fun s us _ hl => by
  rw [List.append_nil] at hl ⊢
  exact .of_eq (h us hl)

/-- an exception of a callee reaches what this body wants of exceptions -/
def Passes (CX : CXT) (X : Cx) (E : XK) : Prop := ∀ (pins : List (Addr × Obj)) (σ : St) (H : Hp) (s : Shared) (e : Value) (s' : Shared), Inv X pins σ H s → CX X.stack H s E e s' → X.xe e s'

section
variable {X : Cx} {CX : CXT} {k : Nat} {f C : Addr} {fd : FuncData} {ps : List Str} {sp : Sp} {dvs : List V} {ds : List Value} {E : XK} {x m : Str} {p pos apos : Pos} {e o : Expr} {es : List Expr} {ta : TE} {t : TA}

/-- the callee runs -/
theorem run_fn {pins : List (Addr × Obj)} {σ : St} {H : Hp} {s : Shared} {Q : VK} {us : List Value} {vs : List V} (F : FnOk X.prog X.w X.K X.mg X.base CX k f fd ps sp) (hr : Room k X.A) (hb : Binds X.K fd ps ds) (hd : Vals dvs ds) (hx : Passes CX X E)
    (I : Inv X pins σ H s) (r : Vals vs us) (h : sp (vs ++ dvs) H Q E) : wpAny (model X.prog X.w) X.A (call (.ref f) us) (EP X pins σ Q) X.xe s := by
  have r2 : Vals (vs ++ dvs) (us ++ ds) := r.append hd
  have hl : (us ++ ds).length = ps.length := by rw [← r2.length]; exact F.len _ _ _ _ h
  refine wpAny_call (codeAny_mono (F.run X.A X.stack s H ⟨us, []⟩ (us ++ ds) (vs ++ dvs) Q E hr I.env0 (hb s us I.kIn hl) r2 h) fun r s' hq => ?_)
  cases r with
  | error e => exact hx pins σ H s e s' I hq
  | ok fl =>
    cases fl with
    | ret u => exact I.after hq
    | next => exact False.elim hq
    | brk => exact False.elim hq
    | cont => exact False.elim hq

theorem pe_call (F : FnOk X.prog X.w X.K X.mg X.base CX k f fd ps sp) (hr : Room k X.A) (hg : Gl X x) (hm : X.mg x = some (.ref f)) (hk : PySem.W.keepIn X.K (.ref f) = true) (hb : Binds X.K fd ps ds) (hd : Vals dvs ds) (hx : Passes CX X E)
    (ha : PA X (e :: es) t) (hdb : (x == ("__debug__" : Str)) = false := by decide) (he : starEach (e :: es) X.env = (false, eval e X.env) :: starEach es X.env := by rfl) (hpl : (backTo pos (starEach es X.env)).any (·.1) = false := by rfl) :
    PE X (.Call (.Name x p) (e :: es) [] pos) (tCall sp dvs E t) := by
  intro pins s σ H Q I h
  refine wpAny_Call_Name_kw (ld_glob I hg hm ?_ hdb)
  refine PySem.W.callWith_K (h₀ := X.base) I.ok.mod.kin hk (thn (ha pos pins s σ H _ I h) fun us s1 ⟨vs, H1, I1, r, q⟩ => ⟨I1.kIn, ?_⟩) he hpl
  exact run_fn F hr hb hd hx I1 r q
theorem pe_call0 (F : FnOk X.prog X.w X.K X.mg X.base CX k f fd ps sp) (hr : Room k X.A) (hg : Gl X x) (hm : X.mg x = some (.ref f)) (hk : PySem.W.keepIn X.K (.ref f) = true) (hb : Binds X.K fd ps ds) (hd : Vals dvs ds) (hx : Passes CX X E)
    (hdb : (x == ("__debug__" : Str)) = false := by decide) : PE X (.Call (.Name x p) [] [] pos) (tCall sp dvs E tNil) := by
  intro pins s σ H Q I h
  refine wpAny_Call_Name_kw (ld_glob I hg hm ?_ hdb)
  exact PySem.W.callWith_K0 I.kIn hk (run_fn (us := []) F hr hb hd hx I .nil h)

/-- o.m(e, ..) -/
theorem pe_meth {pl : Sem Bool} (he : PE X o ta) (c : Cls X.K C) (hm : Meth X.K C m f) (F : FnOk X.prog X.w X.K X.mg X.base CX k f fd ps sp) (hr : Room k X.A) (hb : Binds X.K fd ps ds) (hd : Vals dvs ds) (hx : Passes CX X E) (ha : PA X (e :: es) t)
    (hst : starEach (e :: es) X.env = (false, eval e X.env) :: starEach es X.env := by rfl) (hpl : (backTo pos (starEach es X.env)).any (·.1) = false := by rfl)
    (ht : eval (.Call (.Attribute o m apos) (e :: es) [] pos) X.env = (do
      let ov ← eval o X.env
      standAt apos.atName
      let (f, first) ← holding [ov] (getMethod ov m pl)
      callWith pos f first (backTo pos (starEach (e :: es) X.env)) (backToKw pos (keywordEach [] X.env))) := by rfl) :
    PE X (.Call (.Attribute o m apos) (e :: es) [] pos) (tMeth C m sp dvs E ta t) := by
  intro pins s σ H Q I h
  refine PySem.W.methodCall_KW (pl := pl) (thn (he pins s σ H _ I h) fun u s1 ⟨x, H1, I1, rx, a, dx, fs, ex, ea, l, q⟩ => ?_) ht
  subst ex
  obtain rfl : u = Value.ref a := rx
  refine getmeth_ok I1 ea c hm l ?_
  refine PySem.W.callWith_K (first := [.ref a]) (h₀ := X.base) I.ok.mod.kin hm.kp (thn (ha pos pins s1 σ H1 _ I1 q) fun us s2 ⟨vs, H2, I2, r, q2⟩ => ⟨I2.kIn, ?_⟩) hst hpl
  exact run_fn (us := .ref a :: us) (vs := .ref a :: vs) F hr hb hd hx I2 (.cons rfl r) q2
/-- o.m() -/
theorem pe_meth0 {pl : Sem Bool} (he : PE X o ta) (c : Cls X.K C) (hm : Meth X.K C m f) (F : FnOk X.prog X.w X.K X.mg X.base CX k f fd ps sp) (hr : Room k X.A) (hb : Binds X.K fd ps ds) (hd : Vals dvs ds) (hx : Passes CX X E)
    (ht : eval (.Call (.Attribute o m apos) [] [] pos) X.env = (do
      let ov ← eval o X.env
      standAt apos.atName
      let (f, first) ← holding [ov] (getMethod ov m pl)
      callWith pos f first (backTo pos (starEach [] X.env)) (backToKw pos (keywordEach [] X.env))) := by rfl) :
    PE X (.Call (.Attribute o m apos) [] [] pos) (tMeth C m sp dvs E ta tNil) := by
  intro pins s σ H Q I h
  refine PySem.W.methodCall_KW (pl := pl) (thn (he pins s σ H _ I h) fun u s1 ⟨x, H1, I1, rx, a, dx, fs, ex, ea, l, q⟩ => ?_) ht
  subst ex
  obtain rfl : u = Value.ref a := rx
  refine getmeth_ok I1 ea c hm l ?_
  exact PySem.W.callWith_K0 (first := [.ref a]) I1.kIn hm.kp (run_fn (us := [.ref a]) (vs := [.ref a]) F hr hb hd hx I1 (.cons rfl .nil) q)

/-- what a class must have to be made -/
structure Mk (K : PySem.W.Frag) (C f : Addr) : Prop where
  makes : PySem.W.makesIn K C = true
  init : PySem.W.findIn K (.ref C) "__init__" = some (some (.ref f))
  fn : PySem.W.isFn K (.ref f) = true
  kp : PySem.W.keepIn K (.ref C) = true

theorem run_make {pins : List (Addr × Obj)} {σ : St} {H : Hp} {s : Shared} {Q : VK} {us : List Value} {vs : List V} (M : Mk X.K C f) (F : FnOk X.prog X.w X.K X.mg X.base CX k f fd ps sp) (hr : Room (k + 1) X.A) (hb : Binds X.K fd ps ds) (hd : Vals dvs ds)
    (hx : Passes CX X E) (I : Inv X pins σ H s) (r : Vals vs us)
    (h : ∀ x dx, H x = none → H dx = none → dx ≠ x → sp (.ref x :: (vs ++ dvs)) (upd (upd H dx (.own x)) x (.ins C dx [])) (fun v H2 => v = .non ∧ Q (.ref x) H2) E) :
    wpAny (model X.prog X.w) X.A (call (.ref C) us) (EP X pins σ Q) X.xe s := by
  have hq := h (s.heap.objs.size + 1) s.heap.objs.size (I.hok.fresh (Nat.le_succ _)) (I.hok.fresh (Nat.le_refl _)) (Nat.ne_of_lt (Nat.lt_succ_self _))
  have I2 := Inv.made (C := C) I
  have r2 : Vals (V.ref (s.heap.objs.size + 1) :: (vs ++ dvs)) (Value.ref (s.heap.objs.size + 1) :: (us ++ ds)) := .cons rfl (r.append hd)
  have hl : (Value.ref (s.heap.objs.size + 1) :: us ++ ds).length = ps.length := by
    have e := r2.length
    rw [F.len _ _ _ _ hq] at e
    exact e.symm
  refine wpAny_call (make_map (f := f) I.kIn M.makes M.init (beq_iff_eq.mp M.fn) (codeAny_mono (F.run _ X.stack _ _ ⟨Value.ref (s.heap.objs.size + 1) :: us, []⟩ (Value.ref (s.heap.objs.size + 1) :: (us ++ ds)) _ _ E (hr.make C us [])
    (I2.env0.make C us []) (hb _ (Value.ref (s.heap.objs.size + 1) :: us) I2.kIn hl) r2 hq) fun r s' hq' => ?_))
  cases r with
  | error e => exact hx pins σ _ _ e s' I2 hq'
  | ok fl =>
    cases fl with
    | ret u =>
      obtain ⟨v, H', I3, rv, ev, q3⟩ := I2.after hq'
      subst ev
      exact ⟨rv, ⟨V.ref (s.heap.objs.size + 1), H', I3, rfl, q3⟩⟩
    | next => exact False.elim hq'
    | brk => exact False.elim hq'
    | cont => exact False.elim hq'
theorem pe_make (M : Mk X.K C f) (F : FnOk X.prog X.w X.K X.mg X.base CX k f fd ps sp) (hr : Room (k + 1) X.A) (hg : Gl X x) (hm : X.mg x = some (.ref C)) (hb : Binds X.K fd ps ds) (hd : Vals dvs ds) (hx : Passes CX X E)
    (ha : PA X (e :: es) t) (hdb : (x == ("__debug__" : Str)) = false := by decide) (he : starEach (e :: es) X.env = (false, eval e X.env) :: starEach es X.env := by rfl) (hpl : (backTo pos (starEach es X.env)).any (·.1) = false := by rfl) :
    PE X (.Call (.Name x p) (e :: es) [] pos) (tMake C sp dvs E t) := by
  intro pins s σ H Q I h
  refine wpAny_Call_Name_kw (ld_glob I hg hm ?_ hdb)
  refine PySem.W.callWith_K (h₀ := X.base) I.ok.mod.kin M.kp (thn (ha pos pins s σ H _ I h) fun us s1 ⟨vs, H1, I1, r, q⟩ => ⟨I1.kIn, ?_⟩) he hpl
  exact run_make M F hr hb hd hx I1 r q
theorem pe_make0 (M : Mk X.K C f) (F : FnOk X.prog X.w X.K X.mg X.base CX k f fd ps sp) (hr : Room (k + 1) X.A) (hg : Gl X x) (hm : X.mg x = some (.ref C)) (hb : Binds X.K fd ps ds) (hd : Vals dvs ds) (hx : Passes CX X E)
    (hdb : (x == ("__debug__" : Str)) = false := by decide) : PE X (.Call (.Name x p) [] [] pos) (tMake C sp dvs E tNil) := by
  intro pins s σ H Q I h
  refine wpAny_Call_Name_kw (ld_glob I hg hm ?_ hdb)
  exact PySem.W.callWith_K0 I.kIn M.kp (run_make (us := []) M F hr hb hd hx I .nil h)
end

/-! ### keywords -/
/-- the values of the keywords, from the left -/
def PK (X : Cx) (kws : List Keyword) (t : TA) : Prop :=
  ∀ (pos : Pos) (pins : List (Addr × Obj)) (s : Shared) (σ : St) (H : Hp) (Q : List V → Hp → Prop), Inv X pins σ H s → t σ H Q → wpAny (model X.prog X.w) X.A (evalAll ((backToKw pos (keywordEach kws X.env)).map (·.2))) (AP X pins σ Q) X.xe s
section
variable {X : Cx} {CX : CXT} {k : Nat} {f C : Addr} {fd : FuncData} {ps ks : List Str} {sp : Sp} {E : XK} {x m : Str} {p pos apos kpos : Pos} {e o : Expr} {es : List Expr} {kws : List Keyword} {te ta : TE} {t tk : TA} {nm : Option Str}
theorem pk_nil : PK X [] tNil := fun _ _ _ _ H Q I h => wpAny_evalAll_nil ⟨[], H, I, .nil, h⟩
theorem pk_cons (ha : PE X e te) (hr : PK X kws t) : PK X (⟨nm, e, kpos⟩ :: kws) (tCons te t) := by
  intro pos pins s σ H Q I h
  show wpAny _ _ (evalAll ((do let v ← eval e X.env; standAt pos; pure v) :: (backToKw pos (keywordEach kws X.env)).map (·.2))) _ _ s
  refine wpAny_evalAll_cons (wpAny_bind (thn (ha pins s σ H _ I h) fun u s1 ⟨x, H1, I1, r1, q1⟩ => wpAny_bind (wpAny_standAt (wpAny_pure ?_))))
  exact thn (hr pos pins s1 σ H1 _ I1 q1) fun us s2 ⟨xs, H2, I2, r2, q2⟩ => ⟨x :: xs, H2, I2, .cons r1 r2, q2⟩

/-- how a call with keywords binds: g puts the positional values us and the keywords' values ws (names ks) in the parameters' order, defaults among them -/
structure KBinds (K : PySem.W.Frag) (fd : FuncData) (ps ks : List Str) (g : List Value → List Value → List Value) (gV : List V → List V → List V) : Prop where
  to : ∀ (s : Shared) (us ws : List Value), K.In s.heap → (g us ws).length = ps.length → BindsTo s fd ⟨us, ks.zip ws⟩ (ps.zip (g us ws))
  rel : ∀ {vs : List V} {us : List Value} {zs : List V} {ws : List Value}, Vals vs us → Vals zs ws → Vals (gV vs zs) (g us ws)
def tCallK (sp : Sp) (gV : List V → List V → List V) (E : XK) (t tk : TA) : TE := fun σ H Q => t σ H fun vs H1 => tk σ H1 fun zs H2 => sp (gV vs zs) H2 Q E
variable {g : List Value → List Value → List Value} {gV : List V → List V → List V}
theorem run_fnk {pins : List (Addr × Obj)} {σ : St} {H : Hp} {s : Shared} {Q : VK} {us ws : List Value} {vs zs : List V} (F : FnOk X.prog X.w X.K X.mg X.base CX k f fd ps sp) (hr : Room k X.A) (hb : KBinds X.K fd ps ks g gV) (hx : Passes CX X E)
    (I : Inv X pins σ H s) (r : Vals vs us) (rz : Vals zs ws) (h : sp (gV vs zs) H Q E) : wpAny (model X.prog X.w) X.A (call (.ref f) us (ks.zip ws)) (EP X pins σ Q) X.xe s := by
  have r2 := hb.rel r rz
  have hl : (g us ws).length = ps.length := by rw [← r2.length]; exact F.len _ _ _ _ h
  refine wpAny_call (codeAny_mono (F.run X.A X.stack s H ⟨us, ks.zip ws⟩ (g us ws) (gV vs zs) Q E hr I.env0 (hb.to s us ws I.kIn hl) r2 h) fun r s' hq => ?_)
  cases r with
  | error e => exact hx pins σ H s e s' I hq
  | ok fl =>
    cases fl with
    | ret u => exact I.after hq
    | next => exact False.elim hq
    | brk => exact False.elim hq
    | cont => exact False.elim hq
/-- f(e, .., k = v, ..) -/
theorem pe_callK (F : FnOk X.prog X.w X.K X.mg X.base CX k f fd ps sp) (hr : Room k X.A) (hg : Gl X x) (hm : X.mg x = some (.ref f)) (hk : PySem.W.keepIn X.K (.ref f) = true) (hb : KBinds X.K fd ps ks g gV) (hx : Passes CX X E)
    (ha : PA X (e :: es) t) (hkw : PK X kws tk) (hall : (backToKw pos (keywordEach kws X.env)).all (·.1.isSome) = true := by rfl) (hks : (backToKw pos (keywordEach kws X.env)).filterMap (·.1) = ks := by rfl)
    (hdb : (x == ("__debug__" : Str)) = false := by decide) (he : starEach (e :: es) X.env = (false, eval e X.env) :: starEach es X.env := by rfl)
    (hpl : ((backTo pos (starEach (e :: es) X.env)).any (·.1) || (backToKw pos (keywordEach kws X.env)).any (·.1.isNone)) = false := by rfl) :
    PE X (.Call (.Name x p) (e :: es) kws pos) (tCallK sp gV E t tk) := by
  intro pins s σ H Q I h
  refine wpAny_Call_Name_kw (ld_glob I hg hm ?_ hdb)
  refine PySem.W.callWith_KW (h₀ := X.base) I.ok.mod.kin hk hall (thn (ha pos pins s σ H _ I h) fun us s1 ⟨vs, H1, I1, r, q⟩ => ?_) hpl he
  refine thn (hkw pos pins s1 σ H1 _ I1 q) fun ws s2 ⟨zs, H2, I2, rz, q2⟩ => ⟨I2.kIn, ?_⟩
  rw [hks]
  exact run_fnk F hr hb hx I2 r rz q2
end

/-! ### a def's body keeps its promise -/
/-- names: the parameters first -/
structure FnScope (N P : List Str) (sc : Scope) : Prop where
  kind : sc.kind = .function
  co : sc.isCoroutine = false
  gen : sc.isGenerator = false
  nd : N.Nodup
  pre : N.take P.length = P
  par : ∀ x ∈ P, sc.names.lookup x = some .local ∨ sc.names.lookup x = some .cell
  nofree : ∀ y ∈ sc.names, y.2 ≠ .free

theorem bindL_out {kindOf : Str → Option NameKind} {x : Str} : ∀ {binds : List (Str × Value)} {m : Str → Option Value}, (∀ v, (x, v) ∉ binds) → bindL kindOf binds m x = m x
  | [], _, _ => rfl
  | (n, v) :: r, m, h => by
    unfold bindL
    rw [bindL_out fun w hw => h w (List.mem_cons_of_mem _ hw)]
    split
    · have : x ≠ n := by rintro rfl; exact h v List.mem_cons_self
      simp [this]
    · rfl
theorem bindC_out {kindOf : Str → Option NameKind} {x : Str} : ∀ {binds : List (Str × Value)} {m : Str → Option Value}, (∀ v, (x, v) ∉ binds) → bindC kindOf binds m x = m x
  | [], _, _ => rfl
  | (n, v) :: r, m, h => by
    unfold bindC
    rw [bindC_out fun w hw => h w (List.mem_cons_of_mem _ hw)]
    split
    · rfl
    · have : x ≠ n := by rintro rfl; exact h v List.mem_cons_self
      simp [this]
theorem bindL_get {kindOf : Str → Option NameKind} {x : Str} {v : Value} : ∀ {P : List Str} {vs : List Value} {i : Nat} {m : Str → Option Value}, P.Nodup → P[i]? = some x → vs[i]? = some v → kindOf x = some .local →
    bindL kindOf (P.zip vs) m x = some v
  | [], _, _, _, _, h, _, _ => by simp at h
  | _ :: _, [], _, _, _, _, h, _ => by simp at h
  | p :: P, w :: vs, 0, m, nd, h1, h2, hk => by
    simp at h1 h2; subst h1; subst h2
    show bindL kindOf ((p, w) :: P.zip vs) m p = _
    unfold bindL
    rw [bindL_out fun v hv => (List.nodup_cons.mp nd).1 (List.of_mem_zip hv).1, if_pos hk]
    simp
  | p :: P, w :: vs, i + 1, m, nd, h1, h2, hk => by
    show bindL kindOf ((p, w) :: P.zip vs) m x = _
    unfold bindL
    exact bindL_get (i := i) (List.nodup_cons.mp nd).2 (by simpa using h1) (by simpa using h2) hk
theorem bindC_get {kindOf : Str → Option NameKind} {x : Str} {v : Value} : ∀ {P : List Str} {vs : List Value} {i : Nat} {m : Str → Option Value}, P.Nodup → P[i]? = some x → vs[i]? = some v → kindOf x ≠ some .local →
    bindC kindOf (P.zip vs) m x = some v
  | [], _, _, _, _, h, _, _ => by simp at h
  | _ :: _, [], _, _, _, _, h, _ => by simp at h
  | p :: P, w :: vs, 0, m, nd, h1, h2, hk => by
    simp at h1 h2; subst h1; subst h2
    show bindC kindOf ((p, w) :: P.zip vs) m p = _
    unfold bindC
    rw [bindC_out fun v hv => (List.nodup_cons.mp nd).1 (List.of_mem_zip hv).1, if_neg hk]
    simp
  | p :: P, w :: vs, i + 1, m, nd, h1, h2, hk => by
    show bindC kindOf ((p, w) :: P.zip vs) m x = _
    unfold bindC
    exact bindC_get (i := i) (List.nodup_cons.mp nd).2 (by simpa using h1) (by simpa using h2) hk

/-- the names' values at the entry -/
def start (N : List Str) (vs : List V) : St := vs.map some ++ List.replicate (N.length - vs.length) none

/-- the context of a def's body, at its entry; an exception leaves the frame, then lies as CX says -/
def cxOf (CX : CXT) (P : Program) (w : World) (K : PySem.W.Frag) (mg : Str → Option Value) (base : Heap) (N : List Str) (qual : Str) (scope : Scope) (f : Addr) (cd : Value) (A : Around) (outer : List Env) (s : Shared) (H : Hp) (E : XK) : Cx where
  prog := P
  w := w
  K := K
  mg := mg
  base := base
  A := A.deeper (envOfC qual scope s.heap.objs.size f cd)
  N := N
  s₀ := s
  H₀ := H
  env := envOfC qual scope s.heap.objs.size f cd
  outer := outer
  stack := envOfC qual scope s.heap.objs.size f cd :: outer
  ex := []
  calm := true
  fn := fun _ => true
  pn := []
  xe := fun e s' => wpAny (model P w) (A.deeper (envOfC qual scope s.heap.objs.size f cd)) (leaving (envOfC qual scope s.heap.objs.size f cd) e) (fun _ s'' => CX outer H s E e s'') (fun e' s'' => CX outer H s E e' s'') s'

theorem cell_has {sc : Scope} {n : Nat} {x : Str} (h : sc.names.lookup x = some .cell) : ∃ c, (cellsFrom n sc.names []).lookup x = some c := by
  have q := PySem.W.cellsFrom_some sc.names n [] (.inl h)
  exact Option.isSome_iff_exists.mp q

theorem inv_start {CX : CXT} {P : Program} {w : World} {K : PySem.W.Frag} {mg : Str → Option Value} {base : Heap} {N ps : List Str} {qual : Str} {scope : Scope} {f : Addr} {cd : Value} {A : Around} {outer : List Env} {s s1 : Shared} {H : Hp} {E : XK} {us : List Value} {vs : List V}
    (S : FnScope N ps scope) (hd : A.handled = none) (e0 : Env0 P w K mg base A outer s H) (hl : vs.length = ps.length) (r : Vals vs us)
    (x : InCallC s s.heap.objs.size (bindL (envOfC qual scope s.heap.objs.size f cd).kindOf (ps.zip us) fun _ => none) (cellsFrom (s.heap.objs.size + 1) scope.names []) (bindC (envOfC qual scope s.heap.objs.size f cd).kindOf (ps.zip us) fun _ => none) s1) :
    Inv (cxOf CX P w K mg base N qual scope f cd A outer s H E) [] (start N vs) H s1 := by
  have hpl : ps.length ≤ N.length := by have := congrArg List.length S.pre; rw [List.length_take] at this; omega
  obtain ⟨h1, tk, rfl, hk⟩ := x.done
  have noA : ∀ b : Addr, b ∉ (cxOf CX P w K mg base N qual scope f cd A outer s H E).ex := fun b z => absurd (show b ∈ ([] : List Addr) from z) (by simp)
  refine ⟨⟨e0.mod, S.kind, rfl, rfl, Nat.le_refl _, fun y z c h1 h2 => ?_, fun y hy => ?_, fun y c _ h => ?_, fun _ => hd, Around.frames_deeper e0.frames, .inr ⟨rfl, rfl⟩, fun b z => absurd z (noA b), e0.bs, e0.bsz, fun b _ _ => noA b, fun b z => absurd z (noA b), e0.funs, e0.frf⟩,
    rfl, e0.bare, Un.kept hk, ⟨_, x.toInCall.ns, fun i y v h1 h2 h3 => ?_⟩, fun y c h => ⟨_, x.cell y c h⟩, e0.hok.fresh (Nat.le_refl _), fun y c h => ?_, fun p hp => absurd (show p ∈ ([] : List (Addr × Obj)) from hp) (by simp), e0.hok.kept hk, ?_⟩
  · exact name_of_addr x.apart (PySem.mem_of_lookup h1) (PySem.mem_of_lookup h2)
  · have hy : scope.names.lookup y = some .cell ∨ scope.names.lookup y = some .free := hy
    rcases hy with hy | hy
    · exact cell_has hy
    · exact absurd rfl (S.nofree _ (PySem.mem_of_lookup hy))
  · exact Nat.le_of_lt (x.above y c (PySem.mem_of_lookup h))
  · have hi : i < vs.length := by
      unfold start at h2
      by_cases hi : i < vs.length
      · exact hi
      · rw [List.getElem?_append_right (by simpa using hi)] at h2
        rw [List.getElem?_replicate] at h2
        split at h2 <;> cases h2
    have ha : vs[i]? = some v := by
      unfold start at h2
      rw [List.getElem?_append_left (by simpa using hi), List.getElem?_map] at h2
      cases e : vs[i]? with
      | none => rw [e] at h2; cases h2
      | some a => rw [e] at h2; cases h2; rfl
    obtain ⟨u, hu, rv⟩ := r.get ha
    have hp : ps[i]? = some y := by
      rw [← S.pre, List.getElem?_take_of_lt (by omega)]; exact h1
    have ndP : ps.Nodup := by rw [← S.pre]; exact S.nd.sublist (List.take_sublist _ _)
    refine ⟨u, rv, ?_⟩
    rcases S.par y (List.mem_of_getElem? hp) with k | k
    · exact .inl ⟨k, bindL_get ndP hp hu k⟩
    · obtain ⟨c, e⟩ := cell_has (n := s.heap.objs.size + 1) k
      refine .inr ⟨.inl k, c, e, ?_⟩
      have q := x.cell y c e
      rw [bindC_get ndP hp hu (by show scope.names.lookup y ≠ _; rw [k]; decide)] at q
      exact q
  · exact e0.hok.fresh (Nat.le_of_lt (x.above y c (PySem.mem_of_lookup h)))
  · unfold start
    show _ = N.length
    rw [List.length_append, List.length_map, List.length_replicate]
    omega

/-- THE RULE: a def (or a method) of the text, by its body. The body's reading t is chosen for each entry; it is run at the parameters' values -/
theorem fn_of {CX : CXT} {P : Program} {w : World} {K : PySem.W.Frag} {mg : Str → Option Value} {base : Heap} {k : Nat} {f : Addr} {name qual : Str} {params : Arguments} {body : List Stmt} {scope : Scope} {dV kV doc pm cdv ct oc : Value} {an od : Option Addr}
    {osl : Array (Option Value)} {N ps : List Str} {sp : Sp} (lk : K.lookup f = some ⟨oc, od, .func (PySem.W.fnOf name qual params body scope dV kV doc pm an cdv ct), osl⟩) (hcd : PySem.W.codeIn K cdv qual = true) (S : FnScope N ps scope)
    (len : ∀ vs H Q E, sp vs H Q E → vs.length = ps.length)
    (hbody : ∀ (A : Around) (outer : List Env) (s : Shared) (H : Hp) (vs : List V) (Q : VK) (E : XK), Room k (A.deeper (envOfC qual scope s.heap.objs.size f cdv)) → sp vs H Q E →
      ∃ t, PSs (cxOf CX P w K mg base N qual scope f cdv A outer s H E) body t ∧ t { nx := fun _ H' => Q .non H', rt := Q } (start N vs) H) :
    FnOk P w K mg base CX (k + 1) f (PySem.W.fnOf name qual params body scope dV kV doc pm an cdv ct) ps sp := by
  refine ⟨len, fun A outer s H args us vs Q E hr e0 hb r hsp => ?_⟩
  have hl := len _ _ _ _ hsp
  have KX : K.In s.heap := e0.mod.kin.keeps fun b o e => (e0.bs b o e).1
  have lim : s.heap.NoLimit := e0.mod.nolimit.keeps fun b o e => (e0.bs b o e).1
  have hkind : ∀ y ∈ ps.zip us, scope.names.lookup y.1 = some .local ∨ (scope.names.lookup y.1 = some .cell ∧ ((cellsFrom (s.heap.objs.size + 1) scope.names []).lookup y.1).isSome = true) := fun ⟨n, v⟩ hy => by
    rcases S.par n (List.of_mem_zip hy).1 with q | q
    · exact .inl q
    · exact .inr ⟨q, PySem.W.cellsFrom_some _ _ _ (.inl q)⟩
  refine codeAny_call_function hr.depth (KX _ _ lk) rfl S.co S.gen rfl (PySem.W.codeRec_of KX hcd) (hb _ _ _ _ ?_)
  refine wpAny_newFunctionEnv_cells S.kind hkind fun env he s1 x => ?_
  subst he
  refine ⟨lim.keeps x.toInCall.keep, codeAny_func ?_⟩
  obtain ⟨t, ht, hq⟩ := hbody A outer s H vs Q E (hr.deeper _) hsp
  have I : Inv (cxOf CX P w K mg base N qual scope f cdv A outer s H E) [] (start N vs) H s1 := inv_start S hr.hd e0 hl r x
  refine wpAny_mono (ht [] s1 (start N vs) H _ I hq) (fun fl s' hs => ?_) fun e s' hs => hs
  have fin : ∀ {σ' : St} {H' : Hp} {v : V} {u : Value}, Inv (cxOf CX P w K mg base N qual scope f cdv A outer s H E) [] σ' H' s' → RelV v u → Q v H' → CE outer P w H s Q u s' :=
    fun {σ' H' v u} J rv q => ⟨v, H', J.os, J.bare, J.base, J.hok, rv, q⟩
  cases fl with
  | ret u =>
    obtain ⟨v, σ', H', J, rv, q⟩ := hs
    exact fin J rv q
  | next =>
    obtain ⟨σ', H', J, q⟩ := hs
    exact fin (v := V.non) (u := Value.none) J rfl q
  | brk =>
    obtain ⟨_, _, _, q⟩ := hs
    exact False.elim q
  | cont =>
    obtain ⟨_, _, _, q⟩ := hs
    exact False.elim q
end L2

namespace L2
open PySem PySem.Spec PyProof.Rows
section
variable {X : Cx} {x : Str} {p pos : Pos} {e : Expr} {es : List Expr} {t : TA} {id T : String} {r : List V → Hp → VK → Prop}

def tCB (r : List V → Hp → VK → Prop) (t : TA) : TE := fun σ H Q => t σ H fun vs H1 => r vs H1 Q
/-- f(e, ..), f a built-in function -/
theorem pe_callB (hc : CallR X (.builtin id) r) (hg : Gl X x) (hm : X.mg x = none) (hv : bootBuiltins x = some (.builtin id)) (ha : PA X (e :: es) t) (hn : x ≠ "__name__" := by decide) (hdb : (x == ("__debug__" : Str)) = false := by decide)
    (he : starEach (e :: es) X.env = (false, eval e X.env) :: starEach es X.env := by rfl) (hpl : (backTo pos (starEach es X.env)).any (·.1) = false := by rfl) : PE X (.Call (.Name x p) (e :: es) [] pos) (tCB r t) := by
  intro pins s σ H Q I h
  refine wpAny_Call_Name_kw (ld_blt I hg hm hv ?_ hn hdb)
  exact PyProof.Rows.callWith_builtin1 (thn (ha pos pins s σ H _ I h) fun us s1 ⟨vs, H1, I1, r1, q1⟩ => hc pins s1 σ H1 vs us Q I1 r1 q1) he hpl
/-- T(e, ..), T a built-in type -/
theorem pe_callTy (hc : CallR X (.type T) r) (hg : Gl X x) (hm : X.mg x = none) (hv : bootBuiltins x = some (.type T)) (ha : PA X (e :: es) t) (hn : x ≠ "__name__" := by decide) (hdb : (x == ("__debug__" : Str)) = false := by decide)
    (he : starEach (e :: es) X.env = (false, eval e X.env) :: starEach es X.env := by rfl) (hpl : (backTo pos (starEach es X.env)).any (·.1) = false := by rfl) : PE X (.Call (.Name x p) (e :: es) [] pos) (tCB r t) := by
  intro pins s σ H Q I h
  refine wpAny_Call_Name_kw (ld_blt I hg hm hv ?_ hn hdb)
  exact PyProof.Rows.callWith_type1 (thn (ha pos pins s σ H _ I h) fun us s1 ⟨vs, H1, I1, r1, q1⟩ => hc pins s1 σ H1 vs us Q I1 r1 q1) he hpl
/-- T() -/
theorem pe_callTy0 (hc : CallR X (.type T) r) (hg : Gl X x) (hm : X.mg x = none) (hv : bootBuiltins x = some (.type T)) (hn : x ≠ "__name__" := by decide) (hdb : (x == ("__debug__" : Str)) = false := by decide) :
    PE X (.Call (.Name x p) [] [] pos) (tCB r tNil) := by
  intro pins s σ H Q I h
  refine wpAny_Call_Name_kw (ld_blt I hg hm hv ?_ hn hdb)
  exact PyProof.Rows.callWith_type0 (hc pins s σ H [] [] Q I .nil h)
end
end L2

namespace HT
open PySem PyProof.Rows

/-- t < u of tuples of ints -/
def lexLt : List Int → List Int → Bool
  | [], [] => false
  | [], _ :: _ => true
  | _ :: _, [] => false
  | x :: xs, y :: ys => if x = y then lexLt xs ys else decide (x < y)
theorem lexLt_cons (x y : Int) (xs ys : List Int) : lexLt (x :: xs) (y :: ys) = if x = y then lexLt xs ys else decide (x < y) := rfl
theorem lexLt_nil_nil : lexLt [] [] = false := rfl
theorem lexLt_nil_cons (y : Int) (ys : List Int) : lexLt [] (y :: ys) = true := rfl
theorem lexLt_cons_nil (x : Int) (xs : List Int) : lexLt (x :: xs) [] = false := rfl

theorem eqAt_int (A : Around) (s : Shared) (a : Int) (t : Tok) (c : Int) (u : Tok) : ∃ e, SeqAt.EqAt A s (.int a t) (.int c u) e ∧ (e = true ↔ a = c) :=
  ⟨(a == c), SeqAt.EqAt.int_int a t c u, by simp⟩
theorem rcLt_int (A : Around) (s : Shared) (a : Int) (t : Tok) (c : Int) (u : Tok) (prog : Program) (w : World) (E : Value → Shared → Prop) (Q : Value → Shared → Prop) (h : Q (.bool (decide (a < c))) s) :
    wpAny (model prog w) A (richCompare .Lt (.int a t) (.int c u)) Q E s :=
  (PyProof.Rows.lt_int h : wpAny (model prog w) A (compareOp .Lt (.int a t) (.int c u)) Q E s)

section
open PySem.SeqAt
open PySem.AutoSeq1 (wpAny_loadPart')
open PySem.MeetsSeq PySem.MeetsSeq2 PySem.MeetsSeq3

theorem tuple_lt_ints (l b : Addr) (items items2 : Array Value) (n n2 : Nat) (dd dd2 : Option Addr) (sl sl2 : Array (Option Value)) (ns ms : List Int) (hi : IntsAre items.toList ns) (hj : IntsAre items2.toList ms) :
    Meets (Builtin.«tuple.__lt__» ⟨[.ref l, .ref b], []⟩)
      (fun _ R s => s.heap.get? l = some { cls := .type "tuple", dict := dd, data := .seq items n, slots := sl } ∧ s.heap.get? b = some { cls := .type "tuple", dict := dd2, data := .seq items2 n2, slots := sl2 } ∧
        R (.ok (.ret (.bool (lexLt ns ms)))) s) :=
  .of_wp fun prog w A R s h => by
    obtain ⟨hp, g, d, tk, os⟩ := s; obtain ⟨hl, hb, h⟩ := h
    have f2 := AutoSeq1.sub_tuple_tuple
    have z1 : items.size = ns.length := by rw [← hi.length]; simp
    have z2 : items2.size = ms.length := by rw [← hj.length]; simp
    wp_walk using wpAny_loadPart' hl, wpAny_loadPart' hb, wpAny_forIn_list _ (fun rest b s' => b.1 = none ∧ s' = ⟨hp, g, d, tk, os⟩ ∧ ∃ (vs ws : List Value) (ns' ms' : List Int), rest = vs.zip ws ∧
      IntsAre vs ns' ∧ IntsAre ws ms' ∧ ns'.length + items2.size = ms'.length + items.size ∧ R (.ok (.ret (.bool (lexLt ns' ms')))) ⟨hp, g, d, tk, os⟩) _
    case turn =>
      rintro ⟨y, x⟩ rest b s' ⟨hb', rfl, vs, ws, ns', ms', hz, hvi, hwi, hlen, hR⟩
      cases hvi with
      | nil => rw [List.zip_nil_left] at hz; cases hz
      | cons a t hvi' =>
        cases hwi with
        | nil => rw [List.zip_nil_right] at hz; cases hz
        | cons c u hwi' =>
          rw [List.zip_cons_cons] at hz
          injection hz with hyx hrest
          injection hyx with hy hx
          subst hy hx
          rw [lexLt_cons] at hR
          simp only [List.length_cons] at hlen
          obtain ⟨e, he, hiff⟩ := eqAt_int A.in1 ⟨hp, g, d, tk, os⟩ a t c u
          refine wpAny_bind (he prog w _ _ ?_)
          cases e with
          | true =>
            rw [if_pos (hiff.mp rfl)] at hR
            wp_walk
            exact ⟨rfl, rfl, _, _, _, _, hrest, hvi', hwi', by omega, hR⟩
          | false =>
            rw [if_neg (fun q => absurd (hiff.mpr q) Bool.false_ne_true)] at hR
            have hri := rcLt_int A.in1 ⟨hp, g, d, tk, os⟩ a t c u prog w
            wp_walk using hri
            exact ⟨_, rfl, by simpa using hR⟩
    case fin =>
      rintro ⟨b1, b2⟩ s' ⟨hb', rfl, vs, ws, ns', ms', hz, hvi, hwi, hlen, hR⟩
      simp only at hb'
      subst hb'
      have hv : lexLt ns' ms' = decide (items.size < items2.size) := by
        cases hvi with
        | nil =>
          cases hwi with
          | nil =>
            simp only [List.length_nil] at hlen
            rw [lexLt_nil_nil]
            exact (decide_eq_false (by omega)).symm
          | cons c u hw =>
            simp only [List.length_nil, List.length_cons] at hlen
            rw [lexLt_nil_cons]
            exact (decide_eq_true (by omega)).symm
        | cons a t hv =>
          cases hwi with
          | nil =>
            simp only [List.length_nil, List.length_cons] at hlen
            rw [lexLt_cons_nil]
            exact (decide_eq_false (by omega)).symm
          | cons c u hw =>
            rw [List.zip_cons_cons] at hz
            cases hz
      rw [hv] at hR
      wp_walk
      exact ⟨_, rfl, by simpa [Builtin.Tuple.tupleCompareSizes] using hR⟩
    case h =>
      exact ⟨rfl, rfl, items.toList, items2.toList, ns, ms, rfl, hi, hj, by omega, h⟩
end

section
variable {prog : Program} {w : World} {A : Around} {E : Value → Shared → Prop} {s : Shared}

theorem lt_tupInts {l b : Addr} {items items2 : Array Value} {ns ms : List Int} {Q : Value → Shared → Prop} (hl : IsTup s.heap l items) (hb : IsTup s.heap b items2) (hi : IntsAre items.toList ns) (hj : IntsAre items2.toList ms)
    (hu : A.units < cLine) (h : Q (.bool (lexLt ns ms)) s) : wpAny (model prog w) A (compareOp .Lt (.ref l) (.ref b)) Q E s := by
  obtain ⟨⟨cls, dd, data, sl⟩, ho, hc, n, hd⟩ := id hl
  obtain ⟨⟨cls2, dd2, data2, sl2⟩, ho2, hc2, n2, hd2⟩ := id hb
  simp only at hc hd hc2 hd2
  subst hc hd hc2 hd2
  exact richCompare_meets_room (op := .Lt) ⟨_, ho, rfl⟩ ⟨_, ho2, rfl⟩ PySem.F.slot_tuple_lt PySem.F.entry_tuple_lt (PySem.F.args_tuple_lt_2 _ _) (tuple_lt_ints l b items items2 n n2 dd dd2 sl sl2 ns ms hi hj)
    ⟨ho, ho2, show Value.bool (lexLt ns ms) ≠ Value.notImplemented ∧ Q (.bool (lexLt ns ms)) s from ⟨(fun x => nomatch x), h⟩⟩ hu

/-- t + u, t not empty -/
theorem cat_tup {t b : Addr} {vs ws : List Value} {Q : Value → Shared → Prop} (ht : IsTup s.heap t vs.toArray) (hb : IsTup s.heap b ws.toArray) (hv : vs ≠ [])
    (h1 : ws = [] → Q (.ref t) s) (h2 : ws ≠ [] → Q (.ref s.heap.objs.size) { s with heap := s.heap.push { cls := .type "tuple", data := .seq (vs ++ ws).toArray } })
    (hsz : vs.length + ws.length ≤ sizeLine) : wpAny (model prog w) A (binaryOp .Add (.ref t) (.ref b)) Q E s := by
  obtain ⟨⟨cls, dd, data, sl⟩, ho, hc, n, hd⟩ := id ht
  obtain ⟨⟨cls2, dd2, data2, sl2⟩, ho2, hc2, n2, hd2⟩ := id hb
  simp only at hc hd hc2 hd2
  subst hc hd hc2 hd2
  have e : vs.toArray ++ ws.toArray = (vs ++ ws).toArray := by simp
  by_cases hw : ws = []
  · exact concat_meets ⟨_, ho, rfl⟩ ⟨_, ho2, rfl⟩ noFill_tuple_add seq_tuple_add PySem.F.slot_tuple_add PySem.F.entry_tuple_add (PySem.F.args_tuple_add_2 _ _)
      (tuple_addW1 t b vs.toArray ws.toArray n n2 dd dd2 sl sl2 (by simpa using hv) (by simp [hw])) ⟨ho, ho2, h1 hw⟩
  · refine concat_meets ⟨_, ho, rfl⟩ ⟨_, ho2, rfl⟩ noFill_tuple_add seq_tuple_add PySem.F.slot_tuple_add PySem.F.entry_tuple_add (PySem.F.args_tuple_add_2 _ _)
      (tuple_addW2 t b vs.toArray ws.toArray n n2 dd dd2 sl sl2 (by simpa using hv) (by simpa using hw) (by rw [List.size_toArray, List.size_toArray]; exact hsz)) ⟨ho, ho2, ?_⟩
    rw [e]
    exact h2 hw

/-! ### t[a:b], not the whole -/
/-- a slice's bound as a place among n (d where it is left out) -/
def sIx (n d : Nat) : Option Int → Nat
  | none => d
  | some v => if v < 0 then (v + (n : Int)).toNat else min v.toNat n
theorem sIx_none (n d : Nat) : sIx n d none = d := rfl
theorem sIx_nat (n d k : Nat) : sIx n d (some (k : Int)) = min k n := by
  show (if (k : Int) < 0 then ((k : Int) + (n : Int)).toNat else min (k : Int).toNat n) = min k n
  rw [if_neg (by omega), Int.toNat_natCast]
theorem sIx_le (n d : Nat) (hd : d ≤ n) (o : Option Int) : sIx n d o ≤ n := by
  cases o with
  | none => exact hd
  | some v =>
    show (if v < 0 then (v + (n : Int)).toNat else min v.toNat n) ≤ n
    by_cases hv : v < 0
    · rw [if_pos hv]; omega
    · rw [if_neg hv]; exact Nat.min_le_right _ _
theorem clip_eq (v : Int) (n d : Nat) : (if v < 0 then max (v + (n : Int)) 0 else min v (n : Int)) = ((sIx n d (some v) : Nat) : Int) := by
  show (if v < 0 then max (v + (n : Int)) 0 else min v (n : Int)) = (((if v < 0 then (v + (n : Int)).toNat else min v.toNat n) : Nat) : Int)
  by_cases hv : v < 0
  · simp only [if_pos hv]; omega
  · simp only [if_neg hv]; omega
theorem adjust_gen (lo hi : Option Int) (n : Nat) : Builtin.Slice.sliceAdjust lo hi 1 (n : Int) = (((sIx n 0 lo : Nat) : Int), ((sIx n n hi : Nat) : Int)) := by
  have h1 : ¬ ((1 : Int) < 0) := by omega
  unfold Builtin.Slice.sliceAdjust
  simp only [h1, if_false]
  refine Prod.ext ?_ ?_
  · cases lo with
    | none => rfl
    | some v => exact clip_eq v n 0
  · cases hi with
    | none => rfl
    | some v => exact clip_eq v n n
theorem places_gen (i j : Nat) : Builtin.Slice.slicePlaces (i : Int) (j : Int) 1 = j - i := by
  unfold Builtin.Slice.slicePlaces
  have h1 : (1 : Int) > 0 := by omega
  simp only [h1, if_true, Int.ediv_one]
  split <;> omega
theorem slicePart_ {v : Value} {o : Option Int} {Q : Option Int → Shared → Prop} (p : IsPart v o) (h : Q o s) : wpAny (model prog w) A (Builtin.Slice.slicePartIndex v) Q E s := by
  cases p with
  | none => exact slicePart_none h
  | int i t => exact slicePart_int h
theorem sliceApplied_gen {sl : Addr} {vl vu : Value} {lo hi : Option Int} {n : Nat} {Q : Int × Int × Nat → Shared → Prop} (hs : s.heap.IsSliceOf sl vl vu .none) (pl : IsPart vl lo) (pu : IsPart vu hi)
    (h : Q (((sIx n 0 lo : Nat) : Int), 1, sIx n n hi - sIx n 0 lo) s) : wpAny (model prog w) A (Builtin.Slice.sliceApplied (.ref sl) (pure (n : Int))) Q E s := by
  obtain ⟨os, hos, hcs, hds⟩ := id hs
  unfold Builtin.Slice.sliceApplied Builtin.Slice.sliceFields
  refine wpAny_bind (wpAny_bind (wpAny_field hos hds (x := vl) rfl (wpAny_bind (wpAny_field hos hds (x := vu) rfl (wpAny_bind (wpAny_field hos hds (x := .none) rfl (wpAny_pure ?_)))))))
  refine wpAny_bind (slicePart_none ?_)
  show wpAny _ _ (if ((1 : Int) == 0) = true then _ else _) _ _ s
  rw [if_neg (by decide)]
  refine wpAny_bind (slicePart_ pl (wpAny_bind (slicePart_ pu (wpAny_bind (wpAny_pure ?_)))))
  show wpAny _ _ (match Builtin.Slice.sliceAdjust lo hi 1 (n : Int) with | (lo, hi) => pure (lo, (1 : Int), Builtin.Slice.slicePlaces lo hi 1)) _ _ s
  rw [adjust_gen lo hi n]
  show wpAny _ _ (pure (((sIx n 0 lo : Nat) : Int), (1 : Int), Builtin.Slice.slicePlaces ((sIx n 0 lo : Nat) : Int) ((sIx n n hi : Nat) : Int) 1)) _ _ s
  rw [places_gen]
  exact wpAny_pure h
theorem pick_gen (xs : Array Value) (i k : Nat) : ((List.range k).filterMap fun (m : Nat) => xs[((i : Int) + (m : Int) * 1).toNat]?).toArray = ((xs.toList.drop i).take k).toArray := by
  have e : (fun (m : Nat) => xs[((i : Int) + (m : Int) * 1).toNat]?) = fun m => xs[i + m]? := by
    funext m
    have : ((i : Int) + (m : Int) * 1).toNat = i + m := by omega
    rw [this]
  rw [e]
  have := pick_run xs i k
  rw [List.filterMap_map] at this
  have e2 : ((fun x => xs[x]?) ∘ fun x => i + x) = fun m => xs[i + m]? := rfl
  rw [e2] at this
  rw [this]

theorem getItem_tuple_cut {t sl : Addr} {items : Array Value} {vl vu : Value} {lo hi : Option Int} {Q : Value → Shared → Prop} (ht : IsTup s.heap t items) (hs : s.heap.IsSliceOf sl vl vu .none) (pl : IsPart vl lo) (pu : IsPart vu hi)
    (hw : ¬ (sIx items.size 0 lo = 0 ∧ sIx items.size items.size hi = items.size))
    (h : Q (.ref s.heap.objs.size) { s with heap := s.heap.push { cls := .type "tuple", data := .seq ((items.toList.drop (sIx items.size 0 lo)).take (sIx items.size items.size hi - sIx items.size 0 lo)).toArray } })
    (hsz : items.size ≤ sizeLine) : wpAny (model prog w) A (getItem (.ref t) (.ref sl)) Q E s := by
  have htake : sizeOk (.seq ((items.toList.drop (sIx items.size 0 lo)).take (sIx items.size items.size hi - sIx items.size 0 lo)).toArray) := by
    show ((items.toList.drop (sIx items.size 0 lo)).take (sIx items.size items.size hi - sIx items.size 0 lo)).toArray.size ≤ sizeLine
    rw [List.size_toArray, List.length_take, List.length_drop, Array.length_toList]
    omega
  have hj : sIx items.size items.size hi ≤ items.size := sIx_le _ _ (Nat.le_refl _) hi
  obtain ⟨os, hos, hcs, hds⟩ := id hs
  have hTs : s.TypeIs (.ref sl) "slice" := ⟨os, hos, hcs⟩
  unfold getItem
  try with_reducible refine wpAny_holding ?_
  first | refine wpAny_bind (wpAny_pure ?_) | skip
  refine wpAny_bind (wpAny_sequenceKey ht.typeIs (by decide) ?_)
  refine wpAny_bind (wpAny_callSpecial?_slot (name := Str.ofString "__getitem__") ht.typeIs PyProof.Rows.slot_tuple_getitem
    (wpAny_call_entry PyProof.Rows.slot_tuple_getitem ht.typeIs entry_tuple_getitem ?_ (args_tuple_getitem _ _)))
  show wpAny _ _ (Builtin.Tuple.tupleItemsOf (.ref t) >>= _) _ _ s
  refine wpAny_bind (tupleItemsOf_ ht ?_)
  refine wpAny_bind (wpAny_typeOf hTs ?_)
  rw [if_pos (by decide)]
  refine wpAny_bind (sliceApplied_gen hs pl pu ?_)
  have hno : ¬ ((((sIx items.size 0 lo : Nat) : Int) == 0 && (1 : Int) == 1 && (sIx items.size items.size hi - sIx items.size 0 lo) == items.size) = true) := by
    intro q
    rw [Bool.and_eq_true, Bool.and_eq_true] at q
    have q1 : ((sIx items.size 0 lo : Nat) : Int) = 0 := eq_of_beq q.1.1
    have q2 : sIx items.size items.size hi - sIx items.size 0 lo = items.size := eq_of_beq q.2
    exact hw ⟨by omega, by omega⟩
  show wpAny _ _ (if (((sIx items.size 0 lo : Nat) : Int) == 0 && (1 : Int) == 1 && (sIx items.size items.size hi - sIx items.size 0 lo) == items.size) = true then _ else _) _ _ s
  rw [if_neg hno, pick_gen]
  first
    | exact wpAny_bind (m := Builtin.Tuple.tupleExact _) (wpAny_newObj_type (wpAny_pure ⟨_, rfl, wpAny_pure h⟩) htake)
    | exact wpAny_bind (m := Builtin.Tuple.tupleExact _) (wpAny_newObj_type (wpAny_bind (wpAny_pure (wpAny_pure ⟨_, rfl, wpAny_pure h⟩))) htake)
    | exact wpAny_bind (wpAny_bind (m := Builtin.Tuple.tupleExact _) (wpAny_newObj_type (wpAny_pure (wpAny_pure ⟨_, rfl, wpAny_pure h⟩)) htake))
    | exact wpAny_bind (wpAny_bind (m := Builtin.Tuple.tupleExact _) (wpAny_newObj_type (wpAny_pure ⟨_, rfl, wpAny_pure h⟩) htake))
end
end HT

namespace L2
open PySem PySem.Spec PyProof.Rows

/-! ### the parts of a slice -/
abbrev TO := St → Hp → (Option Int → Hp → Prop) → Prop
/-- a slice's part (left out, or an int) -/
def PO (X : Cx) (e : Option Expr) (t : TO) : Prop :=
  ∀ (pins : List (Addr × Obj)) (s : Shared) (σ : St) (H : Hp) (Q : Option Int → Hp → Prop), Inv X pins σ H s → t σ H Q →
    wpAny (model X.prog X.w) X.A (evalPart e X.env) (fun u s' => ∃ o H', Inv X pins σ H' s' ∧ IsPart u o ∧ Q o H') X.xe s
def tNoPart : TO := fun _ H Q => Q none H
def tPart (t : TE) : TO := fun σ H Q => t σ H fun x H1 => ∃ i, x = .int i ∧ Q (some i) H1

theorem intsAre_of {ns : List Int} : ∀ {us : List Value}, Vals (ns.map V.int) us → IntsAre us ns := by
  induction ns with
  | nil => intro us r; rw [List.map_nil] at r; cases r; exact .nil
  | cons n ns ih =>
    intro us r
    rw [List.map_cons] at r
    cases r with
    | cons r1 r2 =>
      obtain ⟨t, e⟩ := r1
      subst e
      exact .cons n t (ih r2)

section
variable {X : Cx} {e : Expr} {te : TE} {lo hi : Option Expr} {tl th : TO} {pos p2 : Pos}

theorem po_none : PO X none tNoPart := by
  intro pins s σ H Q I h
  rw [evalPart_none]
  exact wpAny_pure ⟨none, H, I, .none, h⟩
theorem po_some (h : PE X e te) : PO X (some e) (tPart te) := by
  intro pins s σ H Q I hw
  rw [evalPart_some]
  refine thn (h pins s σ H _ I hw) fun u s1 ⟨x, H1, I1, r1, q1⟩ => ?_
  obtain ⟨i, rfl, q⟩ := q1
  obtain ⟨t, rfl⟩ := r1
  exact ⟨some i, H1, I1, .int i t, q⟩

/-- what a slice of a value is, by values: the slice object stands at sl -/
def SlR (X : Cx) (r : V → Option Int → Option Int → Hp → VK → Prop) : Prop :=
  ∀ (pins : List (Addr × Obj)) (s : Shared) (σ : St) (H : Hp) (x : V) (v vl vu : Value) (lo hi : Option Int) (sl : Addr) (Q : VK), Inv X pins σ H s → RelV x v → s.heap.IsSliceOf sl vl vu .none → IsPart vl lo → IsPart vu hi → r x lo hi H Q →
    ∃ T id, typeLookup (.type T) "__getitem__" = pure (some (.builtin id)) ∧ s.TypeIs v T ∧ wpAny (model X.prog X.w) X.A (getItem v (.ref sl)) (EP X pins σ Q) X.xe s
theorem SlR.or {r r' : V → Option Int → Option Int → Hp → VK → Prop} (h : SlR X r) (h' : SlR X r') : SlR X (fun x lo hi H Q => r x lo hi H Q ∨ r' x lo hi H Q) := by
  intro pins s σ H x v vl vu lo hi sl Q I rx hs pl pu q
  rcases q with q | q
  · exact h pins s σ H x v vl vu lo hi sl Q I rx hs pl pu q
  · exact h' pins s σ H x v vl vu lo hi sl Q I rx hs pl pu q
def tSl (r : V → Option Int → Option Int → Hp → VK → Prop) (te : TE) (tl th : TO) : TE := fun σ H Q => te σ H fun x H1 => tl σ H1 fun l H2 => th σ H2 fun u H3 => r x l u H3 Q
/-- a[lo:hi], any a -/
theorem pe_slice {r : V → Option Int → Option Int → Hp → VK → Prop} (hr : SlR X r) (he : PE X e te) (hl : PO X lo tl) (hu : PO X hi th) : PE X (.Subscript e (.Slice lo hi none p2) pos) (tSl r te tl th) := by
  intro pins s σ H Q I h
  refine Subscript_ (thn (he pins s σ H _ I h) fun v s1 ⟨x, H1, I1, r1, q1⟩ => ?_)
  refine wpAny_Slice (thn (hl pins s1 σ H1 _ I1 q1) fun vl s2 ⟨l, H2, I2, pl, q2⟩ => thn (hu pins s2 σ H2 _ I2 q2) fun vu s3 ⟨u, H3, I3, pu, q3⟩ => ?_)
  rw [evalPart_none]
  refine wpAny_pure ?_
  have I4 : Inv X pins σ H3 { s3 with heap := s3.heap.push { cls := .type "slice", data := .fields #[vl, vu, .none] } } := I3.kept (t' := s3.toks) fun b ob q => Heap.get?_push_of_some _ q
  obtain ⟨T, id, hT, ht, hg⟩ := hr pins { s3 with heap := s3.heap.push { cls := .type "slice", data := .fields #[vl, vu, .none] } } σ H3 x v vl vu l u s3.heap.objs.size Q I4 r1 (Heap.IsSliceOf.new ..) pl pu q3
  show wpAny (model X.prog X.w) X.A (subscriptTail e (.Slice lo hi none p2) v (.ref s3.heap.objs.size)) (EP X pins σ Q) X.xe { s3 with heap := s3.heap.push { cls := .type "slice", data := .fields #[vl, vu, .none] } }
  exact tail_any (ops := [.ref s3.heap.objs.size, v]) ht hT hg (by with_unfolding_all rfl)

/-- the items of xs[lo:hi] -/
def cutV (xs : List V) (lo hi : Option Int) : List V := (xs.drop (HT.sIx xs.length 0 lo)).take (HT.sIx xs.length xs.length hi - HT.sIx xs.length 0 lo)
theorem cutV_length (xs : List V) (lo hi : Option Int) : (cutV xs lo hi).length ≤ xs.length := by
  unfold cutV
  rw [List.length_take, List.length_drop]
  omega
/-- t[lo:hi], not the whole of it (the whole would be t itself) -/
def rSlT (K : PySem.W.Frag) : V → Option Int → Option Int → Hp → VK → Prop := fun x lo hi H Q => ∃ a xs, x = .ref a ∧ SqT K H a xs ∧
  ¬ (HT.sIx xs.length 0 lo = 0 ∧ HT.sIx xs.length xs.length hi = xs.length) ∧ ∀ p, H p = none → Q (.ref p) (upd H p (.tup (cutV xs lo hi)))
theorem sl_tup : SlR X (rSlT X.K) := by
  intro pins s σ H x v vl vu lo hi sl Q I rx hs pl pu h
  obtain ⟨a, xs, rfl, hx, hw, q⟩ := h
  cases rx
  obtain ⟨its, r, ht, hz⟩ := I.tuple hx
  have hlen : its.toArray.size = xs.length := by rw [List.size_toArray]; exact r.length.symm
  refine ⟨"tuple", _, PyProof.Rows.slot_tuple_getitem.lookup, ht.typeIs, ?_⟩
  refine HT.getItem_tuple_cut ht hs pl pu (by rw [hlen]; exact hw) ?_ (by rw [hlen]; exact hz)
  rw [hlen]
  refine ⟨.ref s.heap.objs.size, _, I.laid (t' := s.toks) (o := .tup (cutV xs lo hi)) (fun b ob q => Heap.get?_push_of_some _ q) (Nat.le_refl _) ?_, rfl, q _ (I.hok.fresh (Nat.le_refl _))⟩
  exact ⟨Nat.le_trans (cutV_length xs lo hi) hz, _, (r.drop (HT.sIx xs.length 0 lo)).take (HT.sIx xs.length xs.length hi - HT.sIx xs.length 0 lo), IsTup.new _ _⟩

/-! ### t < u, t + u -/
def rLtT (K : PySem.W.Frag) : R2 := fun x y H Q => ∃ a b ns ms, x = .ref a ∧ y = .ref b ∧ SqT K H a (ns.map V.int) ∧ SqT K H b (ms.map V.int) ∧ Q (.bl (HT.lexLt ns ms)) H
theorem op_ltT (hu : X.A.units < cLine) : OpR X (compareOp .Lt) (rLtT X.K) := by
  intro pins s σ H x y v u Q I rx ry h
  obtain ⟨a, b, ns, ms, rfl, rfl, ha, hb, q⟩ := h
  cases rx
  cases ry
  obtain ⟨its, r1, p1, _⟩ := I.tuple ha
  obtain ⟨its2, r2, p2, _⟩ := I.tuple hb
  have i1 : IntsAre its.toArray.toList ns := intsAre_of r1
  have i2 : IntsAre its2.toArray.toList ms := intsAre_of r2
  exact HT.lt_tupInts p1 p2 i1 i2 hu ⟨.bl (HT.lexLt ns ms), H, I, rfl, q⟩
/-- t + u, t not empty: u empty gives t itself -/
def rCatT (K : PySem.W.Frag) : R2 := fun x y H Q => ∃ a b xs ys, x = .ref a ∧ y = .ref b ∧ SqT K H a xs ∧ SqT K H b ys ∧ xs ≠ [] ∧ xs.length + ys.length ≤ sizeLine ∧
  (ys = [] → Q (.ref a) H) ∧ (ys ≠ [] → ∀ p, H p = none → Q (.ref p) (upd H p (.tup (xs ++ ys))))
theorem Vals.nil_iff {xs : List V} {us : List Value} (r : Vals xs us) : us = [] ↔ xs = [] := by
  cases r with
  | nil => simp
  | cons _ _ => simp
theorem op_catT : OpR X (binaryOp .Add) (rCatT X.K) := by
  intro pins s σ H x y v u Q I rx ry h
  obtain ⟨a, b, xs, ys, rfl, rfl, ha, hb, hx, hz, q1, q2⟩ := h
  cases rx
  cases ry
  obtain ⟨its, r1, p1, _⟩ := I.tuple ha
  obtain ⟨its2, r2, p2, _⟩ := I.tuple hb
  refine HT.cat_tup p1 p2 (fun z => hx (r1.nil_iff.mp z)) (fun z => ⟨.ref a, H, I, rfl, q1 (r2.nil_iff.mp z)⟩) (fun z => ?_) (by rw [← r1.length, ← r2.length]; exact hz)
  refine ⟨.ref s.heap.objs.size, _, I.laid (t' := s.toks) (o := .tup (xs ++ ys)) (fun b ob q => Heap.get?_push_of_some _ q) (Nat.le_refl _) ?_, rfl, q2 (fun w => z (r2.nil_iff.mpr w)) _ (I.hok.fresh (Nat.le_refl _))⟩
  exact ⟨by rw [List.length_append]; exact hz, _, r1.append r2, IsTup.new _ _⟩
/-- tuple(t) -/
theorem call_tupleT : CallR X (.type "tuple") (fun xs H Q => ∃ a ys, xs = [.ref a] ∧ SqT X.K H a ys ∧ Q (.ref a) H) := by
  intro pins s σ H xs us Q I r h
  obtain ⟨a, ys, rfl, ha, q⟩ := h
  obtain ⟨u, rfl, ru⟩ := vals1 r
  cases ru
  obtain ⟨its, _, p1, _⟩ := I.tuple ha
  exact call_tuple_same (items := its.toArray) p1 ⟨.ref a, H, I, rfl, q⟩
end
end L2

namespace L2
open PySem PySem.Spec PyProof.Rows

/-! ### places -/
/-- the place that an index of any sign means -/
def ixN (n : Nat) (i : Int) : Option Nat := if 0 ≤ i then (if i < n then some i.toNat else none) else if -(n : Int) ≤ i then some (i + n).toNat else none
def atI {α : Type} (xs : List α) (i : Int) : Option α := (ixN xs.length i).bind fun j => xs[j]?
theorem ixN_seq {n : Nat} {i : Int} {j : Nat} (h : ixN n i = some j) : seqIndex? i n = some j ∧ j < n ∧ -(n : Int) ≤ i ∧ i < n := by
  unfold ixN at h
  by_cases h0 : 0 ≤ i
  · rw [if_pos h0] at h
    by_cases h1 : i < n
    · rw [if_pos h1] at h
      have e : i.toNat = j := Option.some.inj h
      exact ⟨by rw [seqIndex_of h0 h1, e], by omega, by omega, h1⟩
    · rw [if_neg h1] at h; cases h
  · rw [if_neg h0] at h
    by_cases h1 : -(n : Int) ≤ i
    · rw [if_pos h1] at h
      have e : (i + n).toNat = j := Option.some.inj h
      exact ⟨by rw [seqIndex_neg (by omega) h1, e], by omega, h1, by omega⟩
    · rw [if_neg h1] at h; cases h
theorem atI_get {α : Type} {xs : List α} {i : Int} {v : α} (h : atI xs i = some v) : ∃ j, seqIndex? i xs.length = some j ∧ xs[j]? = some v ∧ j < xs.length ∧ -(xs.length : Int) ≤ i ∧ i < xs.length := by
  unfold atI at h
  cases e : ixN xs.length i with
  | none => rw [e] at h; cases h
  | some j =>
    rw [e] at h
    obtain ⟨h1, h2, h3, h4⟩ := ixN_seq e
    exact ⟨j, h1, h, h2, h3, h4⟩
theorem atI_nat {α : Type} {xs : List α} {j : Nat} {v : α} (h : xs[j]? = some v) : atI xs (j : Int) = some v := by
  have hj : j < xs.length := (List.getElem?_eq_some_iff.mp h).1
  have e : ixN xs.length (j : Int) = some j := by
    unfold ixN
    rw [if_pos (by omega), if_pos (by omega)]; simp
  unfold atI; rw [e]; exact h
theorem atI_last {α : Type} (xs : List α) (v : α) : atI (xs ++ [v]) (-1) = some v := by
  have hl : (xs ++ [v]).length = xs.length + 1 := by simp
  have e : ixN (xs ++ [v]).length (-1) = some xs.length := by
    unfold ixN
    rw [hl, if_neg (by decide), if_pos (by omega)]
    congr 1
    omega
  unfold atI
  rw [e]
  show (xs ++ [v])[xs.length]? = some v
  simp

/-! ### what may be subscripted -/
/-- what stands as an index of a plain subscript -/
def PlainIx (b : Expr) : Prop := ∀ o i, subscripted b false o i = operate [o, i] (getItem o i)
/-- a subscript by values -/
def IxR (X : Cx) (r : R2) : Prop :=
  ∀ (value slice : Expr) (pins : List (Addr × Obj)) (s : Shared) (σ : St) (H : Hp) (x y : V) (v u : Value) (Q : VK), Inv X pins σ H s → RelV x v → RelV y u → r x y H Q →
    subscripted slice false v u = operate [v, u] (getItem v u) → wpAny (model X.prog X.w) X.A (subscriptTail value slice v u) (EP X pins σ Q) X.xe s
/-- a call of a builtin's method by values: the receiver, the arguments -/
def MtR (X : Cx) (id : String) (r : V → List V → Hp → VK → Prop) : Prop :=
  ∀ (pins : List (Addr × Obj)) (s : Shared) (σ : St) (H : Hp) (x : V) (xs : List V) (v : Value) (us : List Value) (Q : VK), Inv X pins σ H s → RelV x v → Vals xs us → r x xs H Q →
    wpAny (model X.prog X.w) X.A (call (.builtin id) (v :: us)) (EP X pins σ Q) X.xe s
section
variable {X : Cx} {a b : Expr} {ta tb : TE} {pos : Pos}
theorem IxR.or {r r' : R2} (h : IxR X r) (h' : IxR X r') : IxR X (fun x y H Q => r x y H Q ∨ r' x y H Q) := by
  intro value slice pins s σ H x y v u Q I rx ry q hs
  rcases q with q | q
  · exact h value slice pins s σ H x y v u Q I rx ry q hs
  · exact h' value slice pins s σ H x y v u Q I rx ry q hs
theorem MtR.or {id : String} {r r' : V → List V → Hp → VK → Prop} (h : MtR X id r) (h' : MtR X id r') : MtR X id (fun x xs H Q => r x xs H Q ∨ r' x xs H Q) := by
  intro pins s σ H x xs v us Q I rx rs q
  rcases q with q | q
  · exact h pins s σ H x xs v us Q I rx rs q
  · exact h' pins s σ H x xs v us Q I rx rs q
/-- a[b] -/
theorem pe_ix {r : R2} (hr : IxR X r) (ha : PE X a ta) (hb : PE X b tb) (hs : PlainIx b) : PE X (.Subscript a b pos) (tOp r ta tb) := by
  intro pins s σ H Q I h
  exact Subscript_ (binT ha hb I h fun v u s2 x y H2 I2 rx ry q => hr a b pins s2 σ H2 x y v u Q I2 rx ry q (hs _ _))

def rIxL (K : PySem.W.Frag) : R2 := fun x y H Q => ∃ p xs i v, x = .ref p ∧ y = .int i ∧ SqL K H p xs ∧ atI xs i = some v ∧ Q v H
def rIxT (K : PySem.W.Frag) : R2 := fun x y H Q => ∃ p xs i v, x = .ref p ∧ y = .int i ∧ SqT K H p xs ∧ atI xs i = some v ∧ Q v H
def rIxS : R2 := fun x y H Q => ∃ z i c, x = .str z ∧ y = .int i ∧ z.length ≤ sizeLine ∧ atI z.cps.toList i = some c ∧ Q (.str ⟨#[c]⟩) H
theorem ix_list : IxR X (rIxL X.K) := by
  intro value slice pins s σ H x y v u Q I rx ry h hs
  obtain ⟨p, xs, i, z, rfl, rfl, hq, he, q⟩ := h
  cases rx
  obtain ⟨t, rfl⟩ := ry
  obtain ⟨its, r, pl, hz⟩ := I.list hq
  obtain ⟨j, h1, h2, h3, h4, h5⟩ := atI_get he
  obtain ⟨w, ew, rw'⟩ := r.get h2
  have hl := r.length
  have hn := line63
  have fin : EP X pins σ Q w s := ⟨z, H, I, rw', q⟩
  by_cases h0 : 0 ≤ i
  · have hj : i.toNat = j := by
      rw [seqIndex_of h0 h5] at h1
      exact Option.some.inj h1
    exact item_listR pl.isList h0 (by omega) (by rw [hj]; simpa using ew) fin hs
  · have hj : (i + (its.toArray.size : Int)).toNat = j := by
      rw [seqIndex_neg (by omega) h4] at h1
      rw [List.size_toArray, ← hl]
      exact Option.some.inj h1
    exact subscriptTail_builtinR (x := w) pl.isList.typeIs slot_list_getitem.lookup
      (wpAny_getItem_list_neg (Q := fun r s' => r = w ∧ EP X pins σ Q r s') pl.isList (by omega) (by rw [List.size_toArray] <;> omega) (by omega) (by rw [hj]; simpa using ew) ⟨rfl, fin⟩) hs
theorem ix_tup : IxR X (rIxT X.K) := by
  intro value slice pins s σ H x y v u Q I rx ry h hs
  obtain ⟨p, xs, i, z, rfl, rfl, hq, he, q⟩ := h
  cases rx
  obtain ⟨t, rfl⟩ := ry
  obtain ⟨its, r, pl, hz⟩ := I.tuple hq
  obtain ⟨j, h1, h2, h3, h4, h5⟩ := atI_get he
  obtain ⟨w, ew, rw'⟩ := r.get h2
  have hl := r.length
  have hn := line63
  have fin : EP X pins σ Q w s := ⟨z, H, I, rw', q⟩
  exact subscriptTail_builtinR (x := w) pl.typeIs slot_tuple_getitem.lookup
    (getItem_tuple (j := j) (Q := fun r s' => r = w ∧ EP X pins σ Q r s') pl (by omega) (by omega) (by rw [List.size_toArray, ← hl]; exact h1) (by simpa using ew) ⟨rfl, fin⟩) hs
theorem ix_str : IxR X rIxS := by
  intro value slice pins s σ H x y v u Q I rx ry h hs
  obtain ⟨z, i, c, rfl, rfl, hz, he, q⟩ := h
  obtain ⟨t, rfl⟩ := rx
  obtain ⟨t', rfl⟩ := ry
  obtain ⟨j, h1, h2, h3, h4, h5⟩ := atI_get he
  have hl : z.cps.toList.length = z.length := by simp [Str.length]
  rw [hl] at h1 h4 h5
  have hn := line63
  exact tail_any (typeIs_str s z t) slot_str_getitem.lookup (getItem_str (c := c) (by
    have e1 : decide (i < -(2 ^ 63 : Int)) = false := decide_eq_false (by omega)
    have e2 : decide (i ≥ 2 ^ 63) = false := decide_eq_false (by omega)
    rw [e1, e2, Bool.or_false]) (by rw [h1]; simpa using h2) ⟨.str ⟨#[c]⟩, H, I.tok _, ⟨_, rfl⟩, q⟩) hs
/-- list, tuple or str -/
def rIx (K : PySem.W.Frag) : R2 := fun x y H Q => rIxL K x y H Q ∨ rIxT K x y H Q ∨ rIxS x y H Q
theorem ix_seq : IxR X (rIx X.K) := ix_list.or (ix_tup.or ix_str)

/-! ### xs[i] = v, any sign -/
/-- the list's object behind a store -/
theorem mapSeq_set (its : List Value) (n j : Nat) (u : Value) : Obj.mapSeq (·.setIfInBounds j u) { cls := .type "list", data := .seq its.toArray n } = { cls := .type "list", data := .seq (its.set j u).toArray n } := by
  simp [Obj.mapSeq]
theorem Inv.lst {pins : List (Addr × Obj)} {σ : St} {H : Hp} {s : Shared} {p : Addr} {xs : List V} (I : Inv X pins σ H s) (h : H p = some (.lst xs)) :
    ∃ (its : List Value) (n : Nat), Vals xs its ∧ s.heap.get? p = some { cls := .type "list", data := .seq its.toArray n } ∧ xs.length ≤ sizeLine := by
  obtain ⟨z, its, n, r, e⟩ := I.hok p _ h
  exact ⟨its, n, r, e, z⟩
/-- the list at p is written by an update of its object -/
theorem Inv.lstUpd {pins : List (Addr × Obj)} {σ : St} {H : Hp} {s : Shared} {p : Addr} {xs ys : List V} {its its' : List Value} {n n' : Nat} {f : Obj → Obj} (I : Inv X pins σ H s) (h : H p = some (.lst xs))
    (ho : s.heap.get? p = some { cls := .type "list", data := .seq its.toArray n }) (hf : f { cls := .type "list", data := .seq its.toArray n } = { cls := .type "list", data := .seq its'.toArray n' }) (r : Vals ys its') (hz : ys.length ≤ sizeLine) (t : Nat) :
    Inv X pins σ (upd H p (.lst ys)) { s with heap := s.heap.update p f, toks := t } := by
  have e : (s.heap.update p f).get? p = some { cls := .type "list", data := .seq its'.toArray n' } := by
    rw [Heap.get?_update_self f ho (by rw [hf] <;> rfl), hf]
  refine I.write (x := p) (e := p) (by rw [h]; trivial) (.inl rfl) (fun b u hb q => (Heap.get?_update_other _ _ (Ne.symm hb)).trans q) ⟨_, e⟩ ?_
  exact ⟨hz, its', n', r, e⟩
def rSetL : V → V → V → Hp → (Hp → Prop) → Prop := fun o i v H Q => ∃ p xs k j, o = .ref p ∧ i = .int k ∧ H p = some (.lst xs) ∧ ixN xs.length k = some j ∧ Q (upd H p (.lst (xs.set j v)))
theorem set_list : PSet X rSetL := by
  intro pins s σ H o i v ov iv u Q I ro ri rv h
  obtain ⟨p, xs, k, j, rfl, rfl, hp, hj, q⟩ := h
  cases ro
  obtain ⟨t, rfl⟩ := ri
  obtain ⟨its, n, r, ho, hz⟩ := I.lst hp
  obtain ⟨h1, h2, h3, h4⟩ := ixN_seq hj
  have hl := r.length
  have hn := line63
  have I' : Inv X pins σ (upd H p (.lst (xs.set j v))) { s with heap := s.heap.update p (Obj.mapSeq (·.setIfInBounds j u)) } :=
    I.lstUpd hp ho (mapSeq_set its n j u) (r.set rv j) (by rw [List.length_set]; exact hz) s.toks
  by_cases h0 : 0 ≤ k
  · have hk : k.toNat = j := by
      rw [seqIndex_of h0 h4] at h1
      exact Option.some.inj h1
    exact PySem.W.ki_setAt ho h0 (by omega) (by rw [List.size_toArray, ← hl]; exact h4) (by rw [hk]; exact ⟨_, I', q⟩)
  · have hk : (k + (its.toArray.size : Int)).toNat = j := by
      rw [seqIndex_neg (by omega) h3] at h1
      rw [List.size_toArray, ← hl]
      exact Option.some.inj h1
    exact PySem.W.ki_setBack ho (by omega) (by rw [List.size_toArray, ← hl]; exact h3) (by omega) (by rw [hk]; exact ⟨_, I', q⟩)

/-! ### slices -/
theorem slice_bounds (lo hi : Option Int) (n : Nat) : (sliceBounds lo hi none n).1 = ((HT.sIx n 0 lo : Nat) : Int) ∧ (sliceBounds lo hi none n).2.1 = ((HT.sIx n n hi : Nat) : Int) ∧ (sliceBounds lo hi none n).2.2 = 1 := by
  refine ⟨?_, ?_, rfl⟩
  · cases lo with
    | none => simp [sliceBounds, HT.sIx]
    | some i =>
      simp only [sliceBounds, HT.sIx, Option.getD_none, show (1 : Int) > 0 by decide, if_true]
      by_cases h : i < 0
      · simp only [h, if_true] <;> omega
      · simp only [h, if_false] <;> omega
  · cases hi with
    | none => simp [sliceBounds, HT.sIx]
    | some i =>
      simp only [sliceBounds, HT.sIx, Option.getD_none, show (1 : Int) > 0 by decide, if_true]
      by_cases h : i < 0
      · simp only [h, if_true] <;> omega
      · simp only [h, if_false] <;> omega
theorem slicePick_cut (its : List Value) (lo hi : Option Int) : slicePick its.toArray lo hi none = ((its.drop (HT.sIx its.length 0 lo)).take (HT.sIx its.length its.length hi - HT.sIx its.length 0 lo)).toArray := by
  obtain ⟨h1, h2, h3⟩ := slice_bounds lo hi its.toArray.size
  unfold slicePick
  rw [h1, h2, h3]
  simp only [sliceRange_one, pick_run, List.size_toArray] <;> rfl
/-- xs[lo:hi] of a list: a new list -/
def rSlL (K : PySem.W.Frag) : V → Option Int → Option Int → Hp → VK → Prop := fun x lo hi H Q => ∃ a xs, x = .ref a ∧ SqL K H a xs ∧ ∀ p, H p = none → Q (.ref p) (upd H p (.lst (cutV xs lo hi)))
theorem sl_list : SlR X (rSlL X.K) := by
  intro pins s σ H x v vl vu lo hi sl Q I rx hs pl pu h
  obtain ⟨a, xs, rfl, hx, q⟩ := h
  cases rx
  obtain ⟨its, r, ht, hz⟩ := I.list hx
  have hlen := r.length
  refine ⟨"list", _, slot_list_getitem.lookup, ht.isList.typeIs, ?_⟩
  refine wpAny_getItem_list_slice ht.isList hs pl pu .none (by simp) ?_ (by rw [List.size_toArray] <;> omega)
  rw [slicePick_cut, ← hlen]
  refine ⟨.ref s.heap.objs.size, _, I.laid (t' := s.toks) (o := .lst (cutV xs lo hi)) (fun b ob q => Heap.get?_push_of_some _ q) (Nat.le_refl _) ?_, rfl, q _ (I.hok.fresh (Nat.le_refl _))⟩
  exact ⟨Nat.le_trans (cutV_length xs lo hi) hz, _, 0, (r.drop (HT.sIx xs.length 0 lo)).take (HT.sIx xs.length xs.length hi - HT.sIx xs.length 0 lo), Heap.get?_push_size _ rfl⟩

/-! ### in, not in: flat items -/
def flatV : V → Bool
  | .non => true
  | .bl _ => true
  | .int _ => true
  | .str _ => true
  | _ => false
/-- == of flat values -/
def eqV : V → V → Bool
  | .non, .non => true
  | .bl a, .bl b => a == b
  | .bl a, .int b => (if a then 1 else 0) == b
  | .int a, .bl b => a == (if b then 1 else 0)
  | .int a, .int b => a == b
  | .str a, .str b => a == b
  | _, _ => false
theorem eqAt_V {A : Around} {s : Shared} {y x : V} {u v : Value} (ry : RelV y u) (rx : RelV x v) (fy : flatV y = true) (fx : flatV x = true) : SeqAt.EqAt A s u v (eqV y x) := by
  cases y with
  | non =>
    cases ry
    cases x with
    | non => cases rx; exact SeqAt.EqAt.same _
    | bl b => cases rx; exact SeqAt.EqAt.none_bool b
    | int b => obtain ⟨t, rfl⟩ := rx; exact SeqAt.EqAt.none_int b t
    | str b => obtain ⟨t, rfl⟩ := rx; exact SeqAt.EqAt.none_str b t
    | _ => exact absurd (show false = true from fx) Bool.false_ne_true
  | bl a =>
    cases ry
    cases x with
    | non => cases rx; exact SeqAt.EqAt.bool_none a
    | bl b => cases rx; exact SeqAt.EqAt.bool_bool a b
    | int b => obtain ⟨t, rfl⟩ := rx; exact SeqAt.EqAt.bool_int a b t
    | str b => obtain ⟨t, rfl⟩ := rx; exact SeqAt.EqAt.bool_str a b t
    | _ => exact absurd (show false = true from fx) Bool.false_ne_true
  | int a =>
    obtain ⟨t', rfl⟩ := ry
    cases x with
    | non => cases rx; exact SeqAt.EqAt.int_none a t'
    | bl b => cases rx; exact SeqAt.EqAt.int_bool a t' b
    | int b => obtain ⟨t, rfl⟩ := rx; exact SeqAt.EqAt.int_int a t' b t
    | str b => obtain ⟨t, rfl⟩ := rx; exact SeqAt.EqAt.int_str a t' b t
    | _ => exact absurd (show false = true from fx) Bool.false_ne_true
  | str a =>
    obtain ⟨t', rfl⟩ := ry
    cases x with
    | non => cases rx; exact SeqAt.EqAt.str_none a t'
    | bl b => cases rx; exact SeqAt.EqAt.str_bool a t' b
    | int b => obtain ⟨t, rfl⟩ := rx; exact SeqAt.EqAt.str_int a t' b t
    | str b => obtain ⟨t, rfl⟩ := rx; exact SeqAt.EqAt.str_str a t' b t
    | _ => exact absurd (show false = true from fx) Bool.false_ne_true
  | _ => exact absurd (show false = true from fy) Bool.false_ne_true
/-- the items' answers, read off the values (a value's own answer does not lean on its token) -/
def eqU (x : V) (u : Value) : Bool := match u with
  | .none => eqV .non x
  | .bool b => eqV (.bl b) x
  | .int i _ => eqV (.int i) x
  | .str z _ => eqV (.str z) x
  | _ => false
theorem eqU_of {x y : V} {u : Value} (r : RelV y u) (f : flatV y = true) : eqU x u = eqV y x := by
  cases y with
  | non => cases r; rfl
  | bl b => cases r; rfl
  | int i => obtain ⟨t, rfl⟩ := r; rfl
  | str z => obtain ⟨t, rfl⟩ := r; rfl
  | _ => exact absurd (show false = true from f) Bool.false_ne_true
theorem any_eqU {x : V} : ∀ {xs : List V} {us : List Value}, Vals xs us → xs.all flatV = true → us.any (eqU x) = xs.any fun y => eqV y x
  | _, _, .nil, _ => rfl
  | y :: xs, u :: us, .cons r t, f => by
    rw [List.all_cons, Bool.and_eq_true] at f
    rw [List.any_cons, List.any_cons, eqU_of r f.1, any_eqU t f.2]
theorem mem_eqAt {A : Around} {s : Shared} {x : V} {v : Value} (rx : RelV x v) (fx : flatV x = true) : ∀ {xs : List V} {us : List Value}, Vals xs us → xs.all flatV = true → ∀ u ∈ us, SeqAt.EqAt A s u v (eqU x u)
  | _, _, .nil, _ => fun u hu => by cases hu
  | y :: xs, u :: us, .cons r t, f => fun u' hu => by
    rw [List.all_cons, Bool.and_eq_true] at f
    rcases List.mem_cons.mp hu with rfl | hu
    · rw [eqU_of r f.1]; exact eqAt_V r rx f.1 fx
    · exact mem_eqAt rx fx t f.2 u' hu
def inV (x : V) (xs : List V) : Bool := xs.any fun y => eqV y x
/-- x in a list or tuple of flat items -/
def rIn (K : PySem.W.Frag) (neg : Bool) : R2 := fun x y H Q => ∃ p xs, y = .ref p ∧ (SqL K H p xs ∨ SqT K H p xs) ∧ flatV x = true ∧ xs.all flatV = true ∧ Q (.bl (if neg then !inV x xs else inV x xs)) H
theorem op_in_seq : OpR X (compareOp .In) (rIn X.K false) := by
  intro pins s σ H x y v u Q I rx ry h
  obtain ⟨p, xs, rfl, hq, fx, fs, q⟩ := h
  cases ry
  rcases hq with hq | hq
  · obtain ⟨its, r, pl, hz⟩ := I.list hq
    refine SeqAt.in_listAt (eqU x) pl.isList (fun w hw => mem_eqAt rx fx r fs w (by simpa using hw)) ⟨.bl _, H, I, rfl, ?_⟩
    rw [show its.toArray.any (eqU x) = its.any (eqU x) by simp, any_eqU r fs]
    exact q
  · obtain ⟨its, r, pl, hz⟩ := I.tuple hq
    refine SeqAt.in_tupleAt (eqU x) pl (fun w hw => mem_eqAt rx fx r fs w (by simpa using hw)) ⟨.bl _, H, I, rfl, ?_⟩
    rw [show its.toArray.any (eqU x) = its.any (eqU x) by simp, any_eqU r fs]
    exact q
theorem op_notIn_seq : OpR X (compareOp .NotIn) (rIn X.K true) := by
  intro pins s σ H x y v u Q I rx ry h
  obtain ⟨p, xs, rfl, hq, fx, fs, q⟩ := h
  cases ry
  rcases hq with hq | hq
  · obtain ⟨its, r, pl, hz⟩ := I.list hq
    refine SeqAt.notIn_listAt (eqU x) pl.isList (fun w hw => mem_eqAt rx fx r fs w (by simpa using hw)) ⟨.bl _, H, I, rfl, ?_⟩
    rw [show its.toArray.any (eqU x) = its.any (eqU x) by simp, any_eqU r fs]
    exact q
  · obtain ⟨its, r, pl, hz⟩ := I.tuple hq
    refine SeqAt.notIn_tupleAt (eqU x) pl (fun w hw => mem_eqAt rx fx r fs w (by simpa using hw)) ⟨.bl _, H, I, rfl, ?_⟩
    rw [show its.toArray.any (eqU x) = its.any (eqU x) by simp, any_eqU r fs]
    exact q
theorem op_notIn_str : OpR X (compareOp .NotIn) (fun x y H Q => ∃ i j, x = .str i ∧ y = .str j ∧ Q (.bl (!(!(Builtin.Str.occurrences j i 0 j.length 1).isEmpty))) H) := by
  intro pins s σ H x y v u Q I rx ry h
  obtain ⟨i, j, rfl, rfl, q⟩ := h
  obtain ⟨t, rfl⟩ := rx
  obtain ⟨t', rfl⟩ := ry
  exact notIn_str ⟨.bl _, H, I, rfl, q⟩

/-! ### len, list(x), tuple(x) of any list or tuple that is read -/
theorem call_len_seq : CallR X (.builtin "len") (fun xs H Q => ∃ p ys, xs = [.ref p] ∧ (SqL X.K H p ys ∨ SqT X.K H p ys) ∧ Q (.int ys.length) H) := by
  intro pins s σ H xs us Q I r h
  obtain ⟨p, ys, rfl, hq, q⟩ := h
  obtain ⟨u, rfl, rx⟩ := vals1 r
  cases rx
  have hn := line63
  rcases hq with hq | hq
  · obtain ⟨its, r', pl, hz⟩ := I.list hq
    have hlen := r'.length
    exact Calls.call_len_list pl.isList (by simp only [List.size_toArray] <;> omega) ⟨.int ys.length, H, I.tok _, ⟨s.toks + 1, by rw [List.size_toArray, hlen]⟩, q⟩
  · obtain ⟨its, r', pl, hz⟩ := I.tuple hq
    have hlen := r'.length
    exact len_tuple pl (by simp only [List.size_toArray] <;> omega) ⟨.int ys.length, H, I.tok _, ⟨s.toks + 1, by rw [List.size_toArray, hlen]⟩, q⟩
theorem call_len_str : CallR X (.builtin "len") (fun xs H Q => ∃ z, xs = [.str z] ∧ z.length ≤ sizeLine ∧ Q (.int z.length) H) := by
  intro pins s σ H xs us Q I r h
  obtain ⟨z, rfl, hz, q⟩ := h
  obtain ⟨u, rfl, t, rfl⟩ := vals1 r
  have hn := line63
  exact len_str (by omega) ⟨.int z.length, H, I.tok _, ⟨_, rfl⟩, q⟩
theorem CallR.or {f : Value} {r r' : List V → Hp → VK → Prop} (h : CallR X f r) (h' : CallR X f r') : CallR X f (fun xs H Q => r xs H Q ∨ r' xs H Q) := by
  intro pins s σ H xs us Q I rs q
  rcases q with q | q
  · exact h pins s σ H xs us Q I rs q
  · exact h' pins s σ H xs us Q I rs q
theorem call_list_of : CallR X (.type "list") (fun xs H Q => ∃ p ys, xs = [.ref p] ∧ (SqL X.K H p ys ∨ SqT X.K H p ys) ∧ ∀ l, H l = none → Q (.ref l) (upd H l (.lst ys))) := by
  intro pins s σ H xs us Q I r h
  obtain ⟨p, ys, rfl, hq, q⟩ := h
  obtain ⟨u, rfl, rx⟩ := vals1 r
  cases rx
  have fin : ∀ (its : List Value), Vals ys its → ys.length ≤ sizeLine → ∀ (h' : Heap) (c' : Nat), (∀ b o', s.heap.get? b = some o' → h'.get? b = some o') →
      h'.get? s.heap.objs.size = some { cls := .type "list", dict := none, data := .seq its.toArray c', slots := #[] } → EP X pins σ Q (.ref s.heap.objs.size) { s with heap := h' } := fun its r' hz h' c' kp e =>
    ⟨.ref s.heap.objs.size, _, I.laid (t' := s.toks) kp (Nat.le_refl _) (show ObjOk X.prog X.w _ h' _ (.lst ys) from ⟨hz, its, c', r', e⟩), rfl, q _ (I.hok.fresh (Nat.le_refl _))⟩
  rcases hq with hq | hq
  · obtain ⟨its, r', pl, hz⟩ := I.list hq
    have hlen := r'.length
    obtain ⟨o, ho, hc, n, hd⟩ := pl.isList
    exact call_list_seq p (.inl rfl) ho hc hd (fun h' c' kp e => fin its r' hz h' c' kp e) (by simp only [List.size_toArray] <;> omega)
  · obtain ⟨its, r', pl, hz⟩ := I.tuple hq
    have hlen := r'.length
    obtain ⟨o, ho, hc, n, hd⟩ := pl
    exact call_list_seq p (.inr rfl) ho hc hd (fun h' c' kp e => fin its r' hz h' c' kp e) (by simp only [List.size_toArray] <;> omega)
theorem call_tuple_of : CallR X (.type "tuple") (fun xs H Q => ∃ p ys, xs = [.ref p] ∧ ((SqL X.K H p ys ∧ ∀ l, H l = none → Q (.ref l) (upd H l (.tup ys))) ∨ (SqT X.K H p ys ∧ Q (.ref p) H))) := by
  intro pins s σ H xs us Q I r h
  obtain ⟨p, ys, rfl, h⟩ := h
  obtain ⟨u, rfl, rx⟩ := vals1 r
  cases rx
  rcases h with ⟨hq, q⟩ | ⟨hq, q⟩
  · obtain ⟨its, r', pl, hz⟩ := I.list hq
    have hlen := r'.length
    refine call_tuple_list pl.isList (fun h' kp => ?_) (by simp only [List.size_toArray] <;> omega)
    have I1 : Inv X pins σ H { s with heap := h' } := I.kept (t' := s.toks) kp
    have I2 : Inv X pins σ (upd H h'.objs.size (.tup ys)) { s with heap := h'.push { cls := .type "tuple", data := .seq its.toArray } } :=
      I1.laid (t' := s.toks) (fun b o e => Heap.get?_push_of_some _ e) (Nat.le_refl _) (show ObjOk X.prog X.w _ _ _ (.tup ys) from ⟨hz, its, r', IsTup.new _ _⟩)
    exact ⟨.ref h'.objs.size, _, I2, rfl, q _ (I1.hok.fresh (Nat.le_refl _))⟩
  · obtain ⟨its, r', pl, hz⟩ := I.tuple hq
    exact call_tuple_same pl ⟨.ref p, H, I, rfl, q⟩

/-! ### the call of a builtin's method: o.m(..) -/
/-- the value is of that builtin type -/
def tyV (K : PySem.W.Frag) (T : String) (x : V) (H : Hp) : Prop := match x with
  | .str _ => T = "str"
  | .int _ => T = "int"
  | .ref p => (T = "list" ∧ ∃ xs, SqL K H p xs) ∨ (T = "tuple" ∧ ∃ o, K.lookup p = some o ∧ o.cls = .type "tuple" ∧ o.dict = none) ∨
      (T = "dict" ∧ ((∃ kvs, H p = some (.dK kvs)) ∨ ∃ kvs, H p = some (.dT kvs))) ∨ (T = "set" ∧ ∃ S n, H p = some (.set S n))
  | _ => False
theorem tyV_is {pins : List (Addr × Obj)} {σ : St} {H : Hp} {s : Shared} {T : String} {x : V} {v : Value} (I : Inv X pins σ H s) (r : RelV x v) (ty : tyV X.K T x H) :
    s.TypeIs v T ∧ ∀ a, v = .ref a → ∃ ob, s.heap.get? a = some ob ∧ ob.dict = none := by
  cases x with
  | str z =>
    obtain ⟨t, rfl⟩ := r
    cases (show T = "str" from ty)
    exact ⟨typeIs_str s z t, fun _ e => nomatch e⟩
  | int i =>
    obtain ⟨t, rfl⟩ := r
    cases (show T = "int" from ty)
    exact ⟨typeIs_int s i t, fun _ e => nomatch e⟩
  | ref p =>
    cases r
    rcases ty with ⟨rfl, xs, hq⟩ | ⟨rfl, o, hk, hc, hd⟩ | ⟨rfl, hk⟩ | ⟨rfl, S, n, hk⟩
    · obtain ⟨its, _, pl, _⟩ := I.list hq
      refine ⟨pl.isList.typeIs, fun a e => ?_⟩
      cases e
      obtain ⟨o, n, e, c, hd, _⟩ := pl
      exact ⟨o, e, hd⟩
    · refine ⟨⟨o, I.kIn p o hk, hc⟩, fun a e => ?_⟩
      cases e
      exact ⟨o, I.kIn _ o hk, hd⟩
    · have z : ∃ o, s.heap.get? p = some o ∧ o.ExactDict := by
        rcases hk with ⟨kvs, hk⟩ | ⟨kvs, hk⟩
        · obtain ⟨_, _, _, _, o, _, _, e, ex, _⟩ := I.hok p _ hk
          exact ⟨o, e, ex⟩
        · exact False.elim (show ObjOk X.prog X.w H s.heap p (.dT kvs) from I.hok p _ hk)
      obtain ⟨o, e, ex⟩ := z
      refine ⟨⟨o, e, ex.1⟩, fun a e2 => ?_⟩
      cases e2
      exact ⟨o, e, ex.2.1⟩
    · obtain ⟨o, _, _, _, e, ex, _⟩ := I.hok p _ hk
      refine ⟨⟨o, e, ex.1⟩, fun a e2 => ?_⟩
      cases e2
      exact ⟨o, e, ex.2.1⟩
  | _ => exact False.elim ty
def tBM0 (K : PySem.W.Frag) (T : String) (r : V → List V → Hp → VK → Prop) (to : TE) : TE := fun σ H Q => to σ H fun x H1 => tyV K T x H1 ∧ r x [] H1 Q
def tBM (K : PySem.W.Frag) (T : String) (r : V → List V → Hp → VK → Prop) (to : TE) (t : TA) : TE := fun σ H Q => to σ H fun x H1 => tyV K T x H1 ∧ t σ H1 fun xs H2 => r x xs H2 Q
variable {o e : Expr} {es : List Expr} {to : TE} {t : TA} {name : Str} {apos cpos : Pos} {T id : String} {r : V → List V → Hp → VK → Prop}
theorem pe_bm0 (pa : PlainAttrs T) (slot : Slot T name id) (hty : typeOf (.builtin id) = pure (.type "method_descriptor")) (hm : MtR X id r) (ho : PE X o to)
    (hbase : attributeBase o name X.env (eval o X.env) = eval o X.env := by rfl) (hline : (apos.endLine == cpos.line) = true := by rfl) : PE X (.Call (.Attribute o name apos) [] [] cpos) (tBM0 X.K T r to) := by
  intro pins s σ H Q I h
  refine wpAny_Call_method0_late hbase hline (thn (ho pins s σ H _ I h) fun v s1 ⟨x, H1, I1, r1, ty, q1⟩ => ?_)
  obtain ⟨h1, h2⟩ := tyV_is I1 r1 ty
  exact ⟨T, id, pa, slot, hty, h1, h2, Calls.callWith_builtin rfl (PySem.evalArgs_none (hm pins s1 σ H1 x [] v [] Q I1 r1 .nil q1))⟩
theorem pe_bm (pa : PlainAttrs T) (slot : Slot T name id) (hty : typeOf (.builtin id) = pure (.type "method_descriptor")) (hm : MtR X id r) (ho : PE X o to) (ha : PA X (e :: es) t)
    (hbase : attributeBase o name X.env (eval o X.env) = eval o X.env := by rfl)
    (hfew : ((backTo cpos (starEach (e :: es) X.env)).all (fun x => !x.1) && (backToKw cpos (keywordEach [] X.env)).all (fun x => x.1.isSome)
      && decide ((e :: es).length + ([] : List Keyword).length + (if ([] : List Keyword).isEmpty then 0 else 1) < 30)) = true := by rfl)
    (hline : (apos.endLine == cpos.line) = true := by rfl) (hs : starEach (e :: es) X.env = (false, eval e X.env) :: starEach es X.env := by rfl) (hplain : (backTo cpos (starEach es X.env)).any (·.1) = false := by rfl) :
    PE X (.Call (.Attribute o name apos) (e :: es) [] cpos) (tBM X.K T r to t) := by
  intro pins s σ H Q I h
  refine wpAny_Call_method_late hbase hfew hline rfl (thn (ho pins s σ H _ I h) fun v s1 ⟨x, H1, I1, r1, ty, q1⟩ => ?_)
  obtain ⟨h1, h2⟩ := tyV_is I1 r1 ty
  refine ⟨T, id, pa, slot, hty, h1, h2, ?_⟩
  have hA := ha cpos pins s1 σ H1 _ I1 q1
  rw [hs] at hA ⊢
  refine Calls.callWith_builtin (by show (false || (backTo cpos (starEach es X.env)).any (·.1)) = false; rw [hplain] <;> rfl) (Calls.evalArgs_plain ?_)
  exact thn hA fun us s2 ⟨vs, H2, I2, r2, q2⟩ => hm pins s2 σ H2 x vs v us Q I2 r1 r2 q2
/- xs.append(e), list.index on a module's tuple .. are MtR facts of 06m -/
end
end L2

namespace L2
open PySem PySem.Spec PyProof.Rows

def MtM (X : Cx) (id : String) (r : V → List V → Hp → VK → Prop) : Prop :=
  ∀ (pins : List (Addr × Obj)) (s : Shared) (σ : St) (H : Hp) (x : V) (xs : List V) (v : Value) (us : List Value) (Q : VK), Inv X pins σ H s → RelV x v → Vals xs us → r x xs H Q →
    wpAny (model X.prog X.w) X.A (call (.builtin id) (v :: us)) (EP X pins σ Q) X.xe s

/-! ### lists of values -/
theorem Vals.one : ∀ {x : V} {us : List Value}, Vals [x] us → ∃ u, us = [u] ∧ RelV x u
  | _, _, .cons r .nil => ⟨_, rfl, r⟩
theorem Vals.two : ∀ {x y : V} {us : List Value}, Vals [x, y] us → ∃ u v, us = [u, v] ∧ RelV x u ∧ RelV y v
  | _, _, _, .cons r (.cons q .nil) => ⟨_, _, rfl, r, q⟩
theorem Vals.zero : ∀ {us : List Value}, Vals [] us → us = []
  | _, .nil => rfl
theorem Vals.dropLast {xs : List V} {us : List Value} (h : Vals xs us) : Vals xs.dropLast us.dropLast := by
  induction h with
  | nil => exact .nil
  | cons r t ih =>
    cases t with
    | nil => exact .nil
    | cons q t' => exact .cons r ih
theorem Vals.eraseIdx : ∀ {xs : List V} {us : List Value} (i : Nat), Vals xs us → Vals (xs.eraseIdx i) (us.eraseIdx i)
  | _, _, _, .nil => .nil
  | _, _, 0, .cons _ t => t
  | _, _, i + 1, .cons r t => .cons r (Vals.eraseIdx i t)
theorem Vals.reverse {xs : List V} {us : List Value} (h : Vals xs us) : Vals xs.reverse us.reverse := by
  induction h with
  | nil => exact .nil
  | cons r t ih => rw [List.reverse_cons, List.reverse_cons]; exact Vals.append ih (.cons r .nil)
theorem Vals.rep {xs : List V} {us : List Value} (h : Vals xs us) : ∀ k : Nat, Vals (List.replicate k xs).flatten (List.replicate k us).flatten
  | 0 => .nil
  | k + 1 => by
    rw [List.replicate_succ, List.replicate_succ, List.flatten_cons, List.flatten_cons]
    exact Vals.append h (Vals.rep h k)
theorem erase_last {α : Type} (l : List α) : l.eraseIdx (l.length - 1) = l.dropLast := by
  induction l with
  | nil => rfl
  | cons a r ih =>
    cases r with
    | nil => rfl
    | cons b r =>
      have e : (a :: b :: r).length - 1 = ((b :: r).length - 1) + 1 := by
        have h1 : (a :: b :: r).length = r.length + 2 := rfl
        have h2 : (b :: r).length = r.length + 1 := rfl
        omega
      rw [e, List.eraseIdx_cons_succ, ih]
      all_goals rfl
theorem len_erase {α : Type} : ∀ (l : List α) (i : Nat), (l.eraseIdx i).length ≤ l.length
  | [], _ => Nat.le_refl _
  | _ :: _, 0 => Nat.le_succ _
  | _ :: r, i + 1 => Nat.succ_le_succ (len_erase r i)
theorem foldl_rep (its : List Value) : ∀ (k : Nat) (acc : List Value),
    List.foldl (fun x1 x2 => x1 ++ x2) acc.toArray (List.replicate k its.toArray) = (acc ++ (List.replicate k its).flatten).toArray
  | 0, acc => by simp
  | k + 1, acc => by
    have e : acc.toArray ++ its.toArray = (acc ++ its).toArray := by simp
    have e2 : (acc ++ its) ++ (List.replicate k its).flatten = acc ++ (List.replicate (k + 1) its).flatten := by
      rw [List.replicate_succ, List.flatten_cons, List.append_assoc]
    rw [← e2, ← foldl_rep its k (acc ++ its), ← e, List.replicate_succ, List.foldl_cons]

section
variable {X : Cx} {pins : List (Addr × Obj)} {σ : St} {H : Hp} {s : Shared} {l b : Addr} {xs ys zs : List V}

/-! ### the two steps: a tracked list is rewritten, a new list is laid -/
theorem Inv.lset {its its' : List Value} {n : Nat} {f : Array Value → Array Value} {t' : Nat} (I : Inv X pins σ H s) (hH : H l = some (.lst xs))
    (e : s.heap.get? l = some { cls := .type "list", data := .seq its.toArray n }) (hf : f its.toArray = its'.toArray) (hv : Vals ys its') (hz : ys.length ≤ sizeLine) :
    Inv X pins σ (upd H l (.lst ys)) { s with heap := s.heap.update l (Obj.mapSeq f), toks := t' } := by
  have q := PySem.IsL.update e f
  rw [hf] at q
  refine I.write (x := l) (e := l) (by rw [hH]; exact trivial) (.inl rfl) (fun b' u hb hu => (Heap.get?_update_other s.heap (Obj.mapSeq f) (Ne.symm hb)).trans hu) ⟨_, q⟩ ?_
  exact ⟨hz, its', _, hv, q⟩
theorem Inv.lnew {its : List Value} {t' : Nat} (I : Inv X pins σ H s) (hv : Vals ys its) (hz : ys.length ≤ sizeLine) :
    Inv X pins σ (upd H s.heap.objs.size (.lst ys)) { s with heap := s.heap.push { cls := .type "list", data := .seq its.toArray }, toks := t' } :=
  I.laid (fun _ _ q => Heap.get?_push_of_some _ q) (Nat.le_refl _) ⟨hz, its, 0, hv, Heap.get?_push_size _ rfl⟩
theorem Inv.fresh (I : Inv X pins σ H s) : H s.heap.objs.size = none := I.hok.fresh (Nat.le_refl _)
theorem Inv.lstM (I : Inv X pins σ H s) (hH : H l = some (.lst xs)) : xs.length ≤ sizeLine ∧ ∃ (its : List Value) (n : Nat), Vals xs its ∧ xs.length = its.length ∧ s.heap.get? l = some { cls := .type "list", data := .seq its.toArray n } := by
  obtain ⟨z, its, n, r, e⟩ := I.hok l _ hH
  exact ⟨z, its, n, r, r.length, e⟩

theorem notLongL {n : Nat} (h : n ≤ sizeLine) : Builtin.List.listTooLong n = false := by
  unfold Builtin.List.listTooLong
  exact decide_eq_false (by omega)
end

section
variable {X : Cx}

/-! ### methods -/
def rAppend : V → List V → Hp → VK → Prop := fun x vs H Q => ∃ l xs y, x = .ref l ∧ vs = [y] ∧ H l = some (.lst xs) ∧ xs.length < sizeLine ∧ Q .non (upd H l (.lst (xs ++ [y])))
theorem mt_append : MtM X "list.append" rAppend := by
  intro pins s σ H x vs v us Q I rx rv h
  obtain ⟨l, xs, y, rfl, rfl, hH, hz, q⟩ := h
  cases rx
  obtain ⟨u, rfl, ru⟩ := rv.one
  obtain ⟨z, its, n, r, hl, e⟩ := I.lstM hH
  refine call_meets F.slot_list_append ⟨_, e, rfl⟩ F.entry_list_append (F.args_list_append_2 _ _) (PySem.list_append l its.toArray n u (by rw [List.size_toArray]; omega)) ⟨e, ?_⟩
  refine ⟨.non, _, I.lset (its' := its ++ [u]) hH e (by simp) (r.append (.cons ru .nil)) ?_, rfl, q⟩
  rw [List.length_append, List.length_singleton]
  omega

def rExtend : V → List V → Hp → VK → Prop := fun x vs H Q => ∃ l b xs zs, x = .ref l ∧ vs = [.ref b] ∧ H l = some (.lst xs) ∧ H b = some (.lst zs) ∧ xs.length + zs.length ≤ sizeLine ∧ Q .non (upd H l (.lst (xs ++ zs)))
theorem mt_extend : MtM X "list.extend" rExtend := by
  intro pins s σ H x vs v us Q I rx rv h
  obtain ⟨l, b, xs, zs, rfl, rfl, hH, hB, hz, q⟩ := h
  cases rx
  obtain ⟨u, rfl, ru⟩ := rv.one
  cases ru
  obtain ⟨z, its, n, r, hl, e⟩ := I.lstM hH
  obtain ⟨z2, its2, n2, r2, hl2, e2⟩ := I.lstM hB
  have hsz : its.toArray.size + its2.toArray.size ≤ sizeLine := by rw [List.size_toArray, List.size_toArray]; omega
  have hlong : ¬ (!its.toArray.isEmpty && Builtin.List.listTooLong (its.toArray.size + its2.toArray.size)) = true := by
    rw [notLongL hsz, Bool.and_false]
    exact Bool.false_ne_true
  refine call_meets F.slot_list_extend ⟨_, e, rfl⟩ F.entry_list_extend (F.args_list_extend_2 _ _)
    (AutoSeq1.list_extend_list_list_0 l its.toArray n b its2.toArray n2 hlong (by rw [List.size_toArray]; omega) (by omega)) ⟨e, e2, ?_⟩
  refine ⟨.non, _, I.lset (its' := its ++ its2) hH e (by simp) (r.append r2) ?_, rfl, q⟩
  rw [List.length_append]
  omega

def rPop : V → List V → Hp → VK → Prop := fun x vs H Q => ∃ l xs y, x = .ref l ∧ vs = [] ∧ H l = some (.lst xs) ∧ xs[xs.length - 1]? = some y ∧ Q y (upd H l (.lst xs.dropLast))
theorem mt_pop : MtM X "list.pop" rPop := by
  intro pins s σ H x vs v us Q I rx rv h
  obtain ⟨l, xs, y, rfl, rfl, hH, hy, q⟩ := h
  cases rx
  have hus := rv.zero
  subst hus
  obtain ⟨z, its, n, r, hl, e⟩ := I.lstM hH
  obtain ⟨u, hu, ru⟩ := r.get hy
  have hy' : its.toArray[its.toArray.size - 1]? = some u := by
    show its.toArray[its.length - 1]? = some u
    rw [← Array.getElem?_toList, ← hl]
    exact hu
  refine call_meets F.slot_list_pop ⟨_, e, rfl⟩ F.entry_list_pop (F.args_list_pop_1 _) (MeetsSeq.list_pop_last l its.toArray n u hy' (by rw [List.size_toArray]; omega)) ⟨e, ?_⟩
  refine ⟨y, _, I.lset (its' := its.dropLast) hH e ?_ r.dropLast ?_, ru, q⟩
  · show its.toArray.eraseIdxIfInBounds (its.toArray.size - 1) = its.dropLast.toArray
    rw [List.size_toArray, List.eraseIdxIfInBounds_toArray, erase_last]
  · rw [List.length_dropLast]
    omega

def rPopAt : V → List V → Hp → VK → Prop := fun x vs H Q => ∃ l xs i k y, x = .ref l ∧ vs = [.int i] ∧ H l = some (.lst xs) ∧ -(2 ^ 63) ≤ i ∧ i < 2 ^ 63 ∧ seqIndex? i xs.length = some k ∧ xs[k]? = some y ∧ Q y (upd H l (.lst (xs.eraseIdx k)))
theorem mt_popAt : MtM X "list.pop" rPopAt := by
  intro pins s σ H x vs v us Q I rx rv h
  obtain ⟨l, xs, i, k, y, rfl, rfl, hH, h1, h2, hk, hy, q⟩ := h
  cases rx
  obtain ⟨u, rfl, ru⟩ := rv.one
  obtain ⟨t, rfl⟩ := ru
  obtain ⟨z, its, n, r, hl, e⟩ := I.lstM hH
  obtain ⟨w, hw, rw'⟩ := r.get hy
  refine call_meets F.slot_list_pop ⟨_, e, rfl⟩ F.entry_list_pop (F.args_list_pop_2 _ _)
    (MeetsSeq.list_pop_at l its.toArray n i t k w (fitsIndex_both h1 h2) (by rw [List.size_toArray, ← hl]; exact hk) (by rw [← Array.getElem?_toList]; exact hw) (by rw [List.size_toArray]; omega)) ⟨e, ?_⟩
  refine ⟨y, _, I.lset (its' := its.eraseIdx k) hH e ?_ (r.eraseIdx k) ?_, rw', q⟩
  · show its.toArray.eraseIdxIfInBounds k = (its.eraseIdx k).toArray
    rw [List.eraseIdxIfInBounds_toArray]
  · have := len_erase xs k
    omega

def rReverse : V → List V → Hp → VK → Prop := fun x vs H Q => ∃ l xs, x = .ref l ∧ vs = [] ∧ H l = some (.lst xs) ∧ Q .non (upd H l (.lst xs.reverse))
theorem mt_reverse : MtM X "list.reverse" rReverse := by
  intro pins s σ H x vs v us Q I rx rv h
  obtain ⟨l, xs, rfl, rfl, hH, q⟩ := h
  cases rx
  have hus := rv.zero
  subst hus
  obtain ⟨z, its, n, r, hl, e⟩ := I.lstM hH
  refine call_meets F.slot_list_reverse ⟨_, e, rfl⟩ F.entry_list_reverse (F.args_list_reverse_1 _) (AutoSeq1.list_reverse_list_0 l its.toArray n (by rw [List.size_toArray]; omega)) ⟨e, ?_⟩
  refine ⟨.non, _, I.lset (its' := its.reverse) hH e (by simp) r.reverse ?_, rfl, q⟩
  rw [List.length_reverse]
  omega

def rClear : V → List V → Hp → VK → Prop := fun x vs H Q => ∃ l xs, x = .ref l ∧ vs = [] ∧ H l = some (.lst xs) ∧ Q .non (upd H l (.lst []))
theorem mt_clear : MtM X "list.clear" rClear := by
  intro pins s σ H x vs v us Q I rx rv h
  obtain ⟨l, xs, rfl, rfl, hH, q⟩ := h
  cases rx
  have hus := rv.zero
  subst hus
  obtain ⟨z, its, n, r, hl, e⟩ := I.lstM hH
  refine call_meets F.slot_list_clear ⟨_, e, rfl⟩ F.entry_list_clear (F.args_list_clear_1 _) (AutoSeq1.list_clear_list_0 l its.toArray n (by rw [List.size_toArray]; omega)) ⟨e, ?_⟩
  exact ⟨.non, _, I.lset (its' := []) (ys := []) hH e rfl .nil (Nat.zero_le _), rfl, q⟩

/-! ### list + list, list += list, list * int -/
def rCat : R2 := fun x y H Q => ∃ l b xs zs, x = .ref l ∧ y = .ref b ∧ H l = some (.lst xs) ∧ H b = some (.lst zs) ∧ xs.length + zs.length ≤ sizeLine ∧ ∀ p, H p = none → Q (.ref p) (upd H p (.lst (xs ++ zs)))
theorem op_cat : OpR X (binaryOp .Add) rCat := by
  intro pins s σ H x y v u Q I rx ry h
  obtain ⟨l, b, xs, zs, rfl, rfl, hH, hB, hz, q⟩ := h
  cases rx
  cases ry
  obtain ⟨z, its, n, r, hl, e⟩ := I.lstM hH
  obtain ⟨z2, its2, n2, r2, hl2, e2⟩ := I.lstM hB
  refine PySem.P.add_list e e2 ?_ (by rw [List.size_toArray, List.size_toArray]; omega)
  have ea : its.toArray ++ its2.toArray = (its ++ its2).toArray := by simp
  rw [ea]
  exact ⟨.ref _, _, I.lnew (t' := s.toks) (r.append r2) (by rw [List.length_append]; omega), rfl, q _ I.fresh⟩
/-- a list times an int (a negative one is nothing) -/
def rRep : R2 := fun x y H Q => ∃ l k xs, x = .ref l ∧ y = .int k ∧ H l = some (.lst xs) ∧ -(2 ^ 63) ≤ k ∧ k < 2 ^ 63 ∧ xs.length * k.toNat ≤ sizeLine ∧
  ∀ p, H p = none → Q (.ref p) (upd H p (.lst (List.replicate k.toNat xs).flatten))
theorem len_rep {α : Type} (xs : List α) (k : Nat) : (List.replicate k xs).flatten.length = k * xs.length := by
  induction k with
  | zero => simp
  | succ k ih => rw [List.replicate_succ, List.flatten_cons, List.length_append, ih, Nat.succ_mul, Nat.add_comm]
theorem op_rep : OpR X (binaryOp .Mult) rRep := by
  intro pins s σ H x y v u Q I rx ry h
  obtain ⟨l, k, xs, rfl, rfl, hH, h1, h2, hz, q⟩ := h
  cases rx
  obtain ⟨t, rfl⟩ := ry
  obtain ⟨z, its, n, r, hl, e⟩ := I.lstM hH
  have hlen : its.toArray.size * k.toNat ≤ sizeLine := by rw [List.size_toArray, ← hl]; exact hz
  have hcap : ¬ its.toArray.size * k.toNat > (2 ^ 63 - 1) / 8 := by
    have : (sizeLine : Nat) ≤ (2 ^ 63 - 1) / 8 := by decide
    omega
  have hfit : ¬ (!Builtin.List.listFitsIndex k) = true := by
    rw [fitsIndex_both h1 h2]
    exact Bool.false_ne_true
  have hlong : ¬ Builtin.List.listTooLong (its.toArray.size * k.toNat) = true := by
    rw [notLongL hlen]
    exact Bool.false_ne_true
  have hnew : List.foldl (fun x1 x2 => x1 ++ x2) #[] (List.replicate (if its.toArray.isEmpty = true then 0 else k.toNat) its.toArray) = (List.replicate k.toNat its).flatten.toArray := by
    have f0 : ∀ m : Nat, List.foldl (fun x1 x2 => x1 ++ x2) #[] (List.replicate m its.toArray) = (List.replicate m its).flatten.toArray := fun m => by
      have := foldl_rep its m []
      rw [List.nil_append] at this
      exact this
    rw [f0]
    cases its with
    | nil => simp
    | cons a r' => rw [if_neg (by simp)]
  refine wpAny_binaryOp_repeat_ref (T := "list") (U := "int") (by decide) ⟨_, e, rfl⟩ (fun s' => typeIs_int s' k t) noFill_list_mul F.fills_int_mul F.slot_int_rmul repeat_list F.slot_int_index.lookup
    (call_meets F.slot_int_rmul (typeIs_int s k t) F.entry_int_rmul (F.args_int_rmul_2 _ _) (int___rmul___int_list k t l its.toArray n)
      ⟨e, rfl, ⟨_, e, rfl⟩, call_meets F.slot_list_mul ⟨_, e, rfl⟩ F.entry_list_mul (F.args_list_mul_2 _ _) (AutoListH.list___mul___list_int_3 l its.toArray n k t hfit hcap hlong) ⟨e, ?_⟩⟩)
  rw [hnew]
  exact ⟨.ref _, _, I.lnew (t' := s.toks) (r.rep k.toNat) (by rw [len_rep, Nat.mul_comm]; exact hz), rfl, q _ I.fresh⟩

/-! ### del xs[i] -/
theorem del_list {pins : List (Addr × Obj)} {s : Shared} {σ : St} {H : Hp} {l : Addr} {xs : List V} {i : Int} {t : Tok} {k : Nat} {Q : Unit → Shared → Prop} (I : Inv X pins σ H s) (hH : H l = some (.lst xs))
    (h1 : -(2 ^ 63) ≤ i) (h2 : i < 2 ^ 63) (hk : seqIndex? i xs.length = some k) (h : ∀ s', Inv X pins σ (upd H l (.lst (xs.eraseIdx k))) s' → Q () s') :
    wpAny (model X.prog X.w) X.A (delItem (.ref l) (.int i t)) Q X.xe s := by
  obtain ⟨z, its, n, r, hl, e⟩ := I.lstM hH
  refine PySem.P.delItem_list (k := k) e (fitsIndex_both h1 h2) (by rw [List.size_toArray, ← hl]; exact hk) (h _ ?_) (by rw [List.size_toArray]; omega)
  refine I.lset (its' := its.eraseIdx k) (t' := s.toks) hH e ?_ (r.eraseIdx k) ?_
  · show its.toArray.eraseIdxIfInBounds k = (its.eraseIdx k).toArray
    rw [List.eraseIdxIfInBounds_toArray]
  · have := len_erase xs k
    omega
end

/-! ### xs[a:b] = ys -/
section
variable {prog : Program} {w : World} {A : Around} {E : Value → Shared → Prop} {s : Shared}
theorem splice_eq (its its2 : List Value) (a c : Nat) : its.toArray.extract 0 a ++ its2.toArray ++ its.toArray.extract c its.toArray.size = (its.take a ++ its2 ++ its.drop c).toArray := by
  apply Array.toList_inj.mp
  first
    | (simp
       exact List.take_of_length_le (by simp))
    | simp [List.take_of_length_le]
    | simp
theorem bounds_run {a c n : Nat} (hac : a ≤ c) (hc : c ≤ n) : sliceBounds (some (a : Int)) (some (c : Int)) none n = ((a : Int), (c : Int), 1) := by
  simp only [sliceBounds, Option.getD_none]
  have h1 : ¬ ((a : Int) < 0) := by omega
  have h2 : ¬ ((c : Int) < 0) := by omega
  simp only [h1, h2, if_false, show (1 : Int) > 0 by decide, if_true]
  congr 1
  · omega
  · congr 1; omega
set_option maxRecDepth 100000 in
/-- list.__setitem__ with a slice of step one and another list -/
theorem setItem_slice {l b sl : Addr} {items new : Array Value} {n n2 : Nat} {vl vu : Value} {a c : Nat} {Q : Unit → Shared → Prop}
    (e : s.heap.get? l = some { cls := .type "list", data := .seq items n }) (e2 : s.heap.get? b = some { cls := .type "list", data := .seq new n2 }) (hne : l ≠ b)
    (hs : s.heap.IsSliceOf sl vl vu .none) (pl : IsPart vl (some (a : Int))) (pu : IsPart vu (some (c : Int))) (hac : a ≤ c) (hc : c ≤ items.size)
    (hsz : items.size + new.size ≤ sizeLine) (h : Q () { s with heap := s.heap.update l (Obj.mapSeq fun xs => xs.extract 0 a ++ new ++ xs.extract c xs.size) }) :
    wpAny (model prog w) A (setItem (.ref l) (.ref sl) (.ref b)) Q E s := by
  have hl : s.heap.IsList l items := PySem.IsL.isList e
  have hb : s.heap.IsList b new := PySem.IsL.isList e2
  obtain ⟨os, hos, hcs, hds⟩ := id hs
  have hTs : s.TypeIs (.ref sl) "slice" := ⟨os, hos, hcs⟩
  have hstep : ¬ ((rawPart none == rawInt 0) = true) := Bool.false_ne_true
  have hsame : Builtin.List.listSameRef (.ref l) (.ref b) = false := by
    unfold Builtin.List.listSameRef
    exact beq_eq_false_iff_ne.mpr hne
  have hmax : (max (a : Int) (c : Int)).toNat = c := by omega
  have hz' : ((fun xs : Array Value => xs.extract 0 a ++ new ++ xs.extract c xs.size) items).size ≤ sizeLine + 1 := by
    simp only [Array.size_append, Array.size_extract]
    omega
  unfold setItem
  try with_reducible refine wpAny_holding ?_
  first | refine wpAny_bind (wpAny_pure ?_) | skip
  refine wpAny_bind (wpAny_sequenceKey hl.typeIs (by decide) ?_)
  refine wpAny_bind (wpAny_callSpecial?_slot (name := Str.ofString "__setitem__") hl.typeIs slot_list_setitem
    (wpAny_call_entry slot_list_setitem hl.typeIs entry_list_setitem ?_ (args_list_setitem _ _ _)))
  show wpAny _ _ (Builtin.List.listSubscript? (.ref sl) >>= _) _ _ s
  refine wpAny_bind ?_
  unfold Builtin.List.listSubscript?
  refine wpAny_bind (wpAny_specialOf hTs slice_no_index ?_)
  simp only [Option.isNone_none, if_true]
  refine wpAny_pure ?_
  show wpAny _ _ (typeOf (.ref sl) >>= _) _ _ s
  refine wpAny_bind (wpAny_typeOf hTs ?_)
  first
    | rw [if_neg (by decide)]
    | refine PySem.W.KFB.if_not (by decide) ?_
  rw [listSliceParts_eq]
  refine wpAny_bind (wpAny_bind (wpAny_field hos hds (x := .none) rfl (wpAny_bind (wpAny_listPart .none ?_))))
  rw [if_neg hstep]
  refine wpAny_bind (wpAny_field hos hds (x := vl) rfl (wpAny_bind (wpAny_listPart pl ?_)))
  refine wpAny_bind (wpAny_field hos hds (x := vu) rfl (wpAny_bind (wpAny_listPart pu (wpAny_pure ?_))))
  first
    | simp only [hsame, Bool.false_eq_true, if_false]
    | refine PySem.W.KFB.if_not hsame ?_
    | (dsimp only
       rw [if_neg (by rw [hsame]; exact Bool.false_ne_true)])
  refine wpAny_bind (m := Builtin.List.listAllItems (.ref b) "must assign iterable to extended slice") ?_
  unfold Builtin.List.listAllItems
  refine wpAny_bind (wpAny_typeOf hb.typeIs ?_)
  first
    | refine PySem.W.KFB.if_so (by decide) ?_
    | rw [if_pos (by decide)]
    | simp only [beq_self_eq_true, Bool.true_or, if_true]
  unfold Builtin.List.listItems
  refine wpAny_bind (wpAny_seqItems e2 rfl (wpAny_pure ?_))
  refine wpAny_bind (wpAny_bind (wpAny_seqItems e rfl (wpAny_pure ?_)))
  refine wpAny_bind (wpAny_of_eq ((sliceIndices_raw (some (a : Int)) (some (c : Int)) none items.size (by simp)).trans (congrArg (pure : Int × Int × Int → Sem (Int × Int × Int)) (bounds_run hac hc))) ?_)
  show wpAny _ _ (if ((1 : Int) == 1) = true then _ else _) _ _ s
  rw [if_pos (by decide)]
  refine wpAny_bind (wpAny_rule ?_)
  first
    | simp only [notLongL hsz, Bool.false_eq_true, if_false]
    | refine PySem.W.KFB.if_not (notLongL hsz) ?_
  first | refine wpAny_bind (wpAny_pure ?_) | skip
  show wpAny _ _ (updateSeq l (fun xs => xs.extract 0 ((a : Int)).toNat ++ new ++ xs.extract (max (a : Int) (c : Int)).toNat xs.size) >>= _) _ _ s
  rw [hmax, Int.toNat_natCast]
  refine wpAny_bind (wpAny_updateSeq (hz := Nat.le_trans (Nat.le_add_right _ _) hsz) (_hz' := hz') e rfl ?_)
  refine wpAny_bind (wpAny_letGo ?_)
  first
    | exact wpAny_bind (wpAny_pure (wpAny_pure ⟨.none, rfl, wpAny_pure h⟩))
    | exact wpAny_pure ⟨.none, rfl, wpAny_pure h⟩
end

section
variable {X : Cx}
/-- xs[a:c] = ys of another list, at the value level: sl is the slice object that was just made -/
theorem set_slice {pins : List (Addr × Obj)} {s : Shared} {σ : St} {H : Hp} {l b sl : Addr} {xs ys : List V} {a c : Int} {vl vu : Value} {Q : Unit → Shared → Prop} (I : Inv X pins σ H s)
    (hH : H l = some (.lst xs)) (hB : H b = some (.lst ys)) (hne : l ≠ b) (hs : s.heap.IsSliceOf sl vl vu .none) (ra : RelV (.int a) vl) (rc : RelV (.int c) vu) (h0 : 0 ≤ a) (hac : a ≤ c) (hc : c ≤ xs.length)
    (hz : xs.length + ys.length ≤ sizeLine) (h : ∀ s', Inv X pins σ (upd H l (.lst (xs.take a.toNat ++ ys ++ xs.drop c.toNat))) s' → Q () s') :
    wpAny (model X.prog X.w) X.A (setItem (.ref l) (.ref sl) (.ref b)) Q X.xe s := by
  obtain ⟨ta, rfl⟩ := ra
  obtain ⟨tc, rfl⟩ := rc
  obtain ⟨z, its, n, r, hl, e⟩ := I.lstM hH
  obtain ⟨z2, its2, n2, r2, hl2, e2⟩ := I.lstM hB
  obtain ⟨a', rfl⟩ := Int.eq_ofNat_of_zero_le h0
  obtain ⟨c', rfl⟩ := Int.eq_ofNat_of_zero_le (Int.le_trans h0 hac)
  simp only [Int.toNat_natCast] at h
  refine setItem_slice (a := a') (c := c') e e2 hne hs (.int _ _) (.int _ _) (by omega) (by rw [List.size_toArray]; omega) (by rw [List.size_toArray, List.size_toArray]; omega) (h _ ?_)
  refine I.lset (its' := its.take a' ++ its2 ++ its.drop c') (t' := s.toks) hH e ?_ (Vals.append (Vals.append (r.take _) r2) (r.drop _)) ?_
  · exact splice_eq its its2 a' c'
  · rw [List.length_append, List.length_append, List.length_take, List.length_drop]
    omega
end
end L2

namespace Att
open PySem PySem.W PySem.Calls PyProof.Rows

/-! ### the script -/
theorem ints_of_wellAll {P : Params} {h : Heap} : ∀ (ns : List Int) (vs : List Value), WellAll P h vs (ns.map WData.int) → IntsAre vs ns := by
  intro ns
  induction ns with
  | nil =>
    intro vs w
    rw [List.map_nil] at w
    cases w
    exact .nil
  | cons n ns ih =>
    intro vs w
    rw [List.map_cons] at w
    cases w with
    | cons a b =>
      cases a
      exact .cons _ _ (ih _ b)

theorem script_of {l : OpenLaw} {n : Nat} (hn : l.most = some n) {P : Params} {h : Heap} {args : List WData} {vals : List Value}
    (hpre : l.row.toRowW.claim.pre args = true) (hwl : WellAll P h vals args) :
    ∃ a vs ns, vals = [Value.ref a] ∧ args = [WData.list (ns.map WData.int)] ∧ h.get? a = some { cls := .type "list", data := .seq vs.toArray } ∧ IntsAre vs ns ∧ ns.length ≤ n := by
  have hsh : WShape.hasAll [] args [.list .int] = true := (pre_splitW hpre).1
  have hc : l.pre.holds [] { args := args } = true := (pre_splitW hpre).2
  obtain ⟨d, r, rfl, h1, h2⟩ := hasAllW_cons hsh
  obtain rfl := hasAllW_nil h2
  obtain ⟨xs, rfl, h3⟩ := hasW_list h1
  obtain ⟨ns, rfl⟩ := items_int h3
  have hlen : ns.length ≤ n := by
    unfold OpenLaw.pre at hc
    have h4 : (WTm.not (.lt (.lit (.int (n : Int))) (.len (.arg 0)))).holds [] { args := [.list (ns.map .int)] } = true := by
      have h4 := (holds_andW hc).1
      rw [hn] at h4
      exact h4
    have h5 := condW_of h4 (w_not (w_lt w_lit (w_len_list (w_arg rfl))))
    rw [List.length_map] at h5
    refine Nat.le_of_not_lt fun q => ?_
    have q' : (n : Int) < ((ns.length : Nat) : Int) := by omega
    first
      | (rw [decide_eq_true q'] at h5; exact absurd h5 (by decide))
      | (simp at h5; omega)
  cases hwl with
  | cons w1 w2 =>
    cases w2
    cases w1 with
    | list ho hall => exact ⟨_, _, ns, rfl, rfl, ho, ints_of_wellAll ns _ hall, hlen⟩

theorem post_true (l : OpenLaw) (args : List WData) : l.row.toRowW.claim.post args (.bool true) args = true :=
  postW_of (r := l.row.toRowW) (X := (true == true))
    (show WShape.has [] (.bool true) .bool = true by first | rfl | decide | simp [WShape.has, WShape.arms, WShape.armsAll])
    (show (WTm.eq .res (.lit (.bool true))).value [] { args := args, res := some (.bool true), after := args } = some (.bool (true == true)) from w_eq_bool (w_res rfl) w_lit) rfl

/-! ### the attachment: holds_open's last premise (the goal 'hc' behind k_head) from a wpAny of the law's body -/
theorem attach {l : OpenLaw} {n : Nat} {q : Program} {loose : List Str} {XP : (Str → Option Value) → Heap → Prop} {YP : World → Heap → Prop} {d : DefRec} {x : Str}
    (hn : l.most = some n) (hdf : d.params.defaults = [])
    (hbind : ∀ pm cd doc v : Value, bindArgs (docDef d.name d.params d.body d.scope pm cd doc) ⟨[v], []⟩ = pure [(x, v)])
    (hx : d.scope.names.lookup x = some .local ∨ d.scope.names.lookup x = some .cell)
    (hk : d.scope.kind = .function) (hco : d.scope.isCoroutine = false) (hgen : d.scope.isGenerator = false)
    (body : ∀ (w : World) (s₀ s₁ s : Shared) (mg mb : Str → Option Value) (fa : Addr) (o : Obj) (pm cd doc : Value) (a : Addr) (vs : List Value) (ns : List Int),
      Ground q loose [] XP w s₀ mg mb s₁.heap → YP w s₁.heap →
      s₁.heap.get? fa = some o → o.data = .func (docDef d.name d.params d.body d.scope pm cd doc) → s₁.heap.CodeRec cd d.name → mg d.name = some (.ref fa) →
      s₁.heap.get? a = some { cls := .type "list", data := .seq vs.toArray } → IntsAre vs ns → ns.length ≤ n →
      s.gens = #[] → s.os = s₁.os →
      Fr s₁.heap s₁.heap.objs.size s.heap (bindL (envOfC d.name d.scope s₁.heap.objs.size fa cd).kindOf [(x, .ref a)] fun _ => none) →
      Cl s₁.heap.objs.size (cellsFrom (s₁.heap.objs.size + 1) d.scope.names []) s.heap (bindC (envOfC d.name d.scope s₁.heap.objs.size fa cd).kindOf [(x, .ref a)] fun _ => none) →
      wpAny (model l.prog w) (callerA.deeper (envOfC d.name d.scope s₁.heap.objs.size fa cd)) (execs d.body (envOfC d.name d.scope s₁.heap.objs.size fa cd))
        (fun f s' => f = .ret (.bool true) ∧ OldK s₁.heap s'.heap ∧ s'.os = s₁.os ∧ AllBare s'.gens) (fun _ _ => False) s) :
    WalkO q loose XP YP l.row.toRowW d [] (fun f vs => PySem.call f vs) := by
  intro w s₀ s₁ mg mb G Y fa o pm cd doc dV kV ho hd hcd hD hmg hg args vals as hpre hlay hrd hwl hlo
  obtain rfl : dV = .none := Dflts.none hD hdf
  obtain rfl : kV = .none := Dflts.noKw hD
  obtain ⟨a, vs, ns, rfl, rfl, hobj, hints, hlen⟩ := script_of hn hpre hwl
  refine enter_call ?_
  refine call_cells_ret (o := o) (by rw [depth_caller]; decide) ho (fd_plain hd) G.T.nolimit hcd (hbind pm cd doc (.ref a)) (fun y hy => ?_) (fun h₁ tk F X => ?_) hco hgen hk
  · obtain rfl : y = (x, Value.ref a) := List.mem_singleton.mp hy
    rcases hx with e | e
    · exact .inl e
    · exact .inr ⟨e, cellsFrom_some _ _ _ (.inl e)⟩
  · refine wpAny_mono (body w s₀ s₁ { s₁ with heap := h₁, toks := tk } mg mb fa o pm cd doc a vs ns G Y ho (fd_plain hd) hcd hmg hobj hints hlen hg rfl F X) (fun f s' hq => ?_) (fun _ _ hq => hq)
    obtain ⟨rfl, h2, h3, h4⟩ := hq
    exact ⟨.inl ⟨.bool true, .bool true, [], rfl, fun _ => rfl, .bool true, post_true l _, fun _ => ⟨List.Pairwise.nil, fun _ hm => (nomatch hm)⟩⟩, h2, h3, h4⟩

/-- the same from a codeAny of the CALL (for a layer whose function contracts speak of calls) -/
theorem attach_call {l : OpenLaw} {n : Nat} {q : Program} {loose : List Str} {XP : (Str → Option Value) → Heap → Prop} {YP : World → Heap → Prop} {d : DefRec}
    (hn : l.most = some n) (hdf : d.params.defaults = [])
    (call : ∀ (w : World) (s₀ s₁ : Shared) (mg mb : Str → Option Value) (fa : Addr) (o : Obj) (pm cd doc : Value) (a : Addr) (vs : List Value) (ns : List Int),
      Ground q loose [] XP w s₀ mg mb s₁.heap → YP w s₁.heap →
      s₁.heap.get? fa = some o → o.data = .func (docDef d.name d.params d.body d.scope pm cd doc) → s₁.heap.CodeRec cd d.name → mg d.name = some (.ref fa) →
      s₁.heap.get? a = some { cls := .type "list", data := .seq vs.toArray } → IntsAre vs ns → ns.length ≤ n → s₁.gens = #[] →
      codeAny (model l.prog w) callerA (.call (.ref fa) ⟨[.ref a], []⟩) (fun r s' => r = .ok (.ret (.bool true)) ∧ OldK s₁.heap s'.heap ∧ s'.os = s₁.os ∧ AllBare s'.gens) s₁) :
    WalkO q loose XP YP l.row.toRowW d [] (fun f vs => PySem.call f vs) := by
  intro w s₀ s₁ mg mb G Y fa o pm cd doc dV kV ho hd hcd hD hmg hg args vals as hpre hlay hrd hwl hlo
  obtain rfl : dV = .none := Dflts.none hD hdf
  obtain rfl : kV = .none := Dflts.noKw hD
  obtain ⟨a, vs, ns, rfl, rfl, hobj, hints, hlen⟩ := script_of hn hpre hwl
  refine enter_call (codeAny_mono (call w s₀ s₁ mg mb fa o pm cd doc a vs ns G Y ho (fd_plain hd) hcd hmg hobj hints hlen hg) fun r s' hq => ?_)
  obtain ⟨rfl, h2, h3, h4⟩ := hq
  exact ⟨.inl ⟨.bool true, .bool true, [], rfl, fun _ => rfl, .bool true, post_true l _, fun _ => ⟨List.Pairwise.nil, fun _ hm => (nomatch hm)⟩⟩, h2, h3, h4⟩

/-- the same where the top left finished generators (o_head chose holds_openN): nothing may have changed at all and no generator may be left -/
theorem attachN {l : OpenLaw} {n : Nat} {q : Program} {loose : List Str} {XP : (Str → Option Value) → Heap → Prop} {YP : World → Heap → Prop} {d : DefRec} {x : Str}
    (hn : l.most = some n) (hdf : d.params.defaults = [])
    (hbind : ∀ pm cd doc v : Value, bindArgs (docDef d.name d.params d.body d.scope pm cd doc) ⟨[v], []⟩ = pure [(x, v)])
    (hx : d.scope.names.lookup x = some .local ∨ d.scope.names.lookup x = some .cell)
    (hk : d.scope.kind = .function) (hco : d.scope.isCoroutine = false) (hgen : d.scope.isGenerator = false)
    (body : ∀ (w : World) (s₀ s₁ s : Shared) (mg mb : Str → Option Value) (fa : Addr) (o : Obj) (pm cd doc : Value) (a : Addr) (vs : List Value) (ns : List Int),
      Ground q loose [] XP w s₀ mg mb s₁.heap → YP w s₁.heap →
      s₁.heap.get? fa = some o → o.data = .func (docDef d.name d.params d.body d.scope pm cd doc) → s₁.heap.CodeRec cd d.name → mg d.name = some (.ref fa) →
      s₁.heap.get? a = some { cls := .type "list", data := .seq vs.toArray } → IntsAre vs ns → ns.length ≤ n →
      s.gens = #[] → s.os = s₁.os →
      Fr s₁.heap s₁.heap.objs.size s.heap (bindL (envOfC d.name d.scope s₁.heap.objs.size fa cd).kindOf [(x, .ref a)] fun _ => none) →
      Cl s₁.heap.objs.size (cellsFrom (s₁.heap.objs.size + 1) d.scope.names []) s.heap (bindC (envOfC d.name d.scope s₁.heap.objs.size fa cd).kindOf [(x, .ref a)] fun _ => none) →
      wpAny (model l.prog w) (callerA.deeper (envOfC d.name d.scope s₁.heap.objs.size fa cd)) (execs d.body (envOfC d.name d.scope s₁.heap.objs.size fa cd))
        (fun f s' => f = .ret (.bool true) ∧ (∀ b o, s₁.heap.get? b = some o → s'.heap.get? b = some o) ∧ s'.os = s₁.os ∧ s'.gens = #[]) (fun _ _ => False) s) :
    WalkN q loose XP YP l.row.toRowW d [] (fun f vs => PySem.call f vs) := by
  intro w s₀ s₁ mg mb G Y fa o pm cd doc dV kV ho hd hcd hD hmg hg args vals as hpre hlay hrd hwl hlo
  obtain rfl : dV = .none := Dflts.none hD hdf
  obtain rfl : kV = .none := Dflts.noKw hD
  obtain ⟨a, vs, ns, rfl, rfl, hobj, hints, hlen⟩ := script_of hn hpre hwl
  refine enter_callW ?_
  refine call_cells_ret (o := o) (by rw [depth_caller]; decide) ho (fd_plain hd) G.T.nolimit hcd (hbind pm cd doc (.ref a)) (fun y hy => ?_) (fun h₁ tk F X => ?_) hco hgen hk
  · obtain rfl : y = (x, Value.ref a) := List.mem_singleton.mp hy
    rcases hx with e | e
    · exact .inl e
    · exact .inr ⟨e, cellsFrom_some _ _ _ (.inl e)⟩
  · refine wpAny_mono (body w s₀ s₁ { s₁ with heap := h₁, toks := tk } mg mb fa o pm cd doc a vs ns G Y ho (fd_plain hd) hcd hmg hobj hints hlen hg rfl F X) (fun f s' hq => ?_) (fun _ _ hq => hq)
    obtain ⟨rfl, h2, h3, h4⟩ := hq
    exact ⟨.inl ⟨.bool true, .bool true, [], rfl, fun _ => rfl, .bool true, post_true l _, fun _ => ⟨List.Pairwise.nil, fun _ hm => (nomatch hm)⟩⟩, h2, h3, h4⟩

/-! ### rules over ANY heap (no ledger) from facts about the written part K: the library's own take a ledger (News) for what they write -/
section
variable {prog : Program} {w : World} {A : Around} {E : Value → Shared → Prop} {s : Shared} {K : Frag}

/-- a def of the module, or a method (qual 'C.m'), entered: the frame is the next address; cells behind it -/
theorem call_fn {R : Result → Shared → Prop} {name qual : Str} {params : Arguments} {body : List Stmt} {scope : Scope} {dV kV doc pm cdv ct oc : Value} {an od : Option Addr} {osl : Array (Option Value)} {f : Addr} {args : Args} {binds : List (Str × Value)}
    (X : K.In s.heap) (hlim : s.heap.NoLimit) (ho : K.lookup f = some ⟨oc, od, .func (fnOf name qual params body scope dV kV doc pm an cdv ct), osl⟩) (hcd : codeIn K cdv qual = true) (hroom : A.depth < recursionLimit)
    (hbind : BindsTo s (fnOf name qual params body scope dV kV doc pm an cdv ct) args binds)
    (hkind : (binds.all fun y => scope.names.lookup y.1 == some .local || scope.names.lookup y.1 == some .cell) = true)
    (h : ∀ s₁, InCallC s s.heap.objs.size (bindL (envOfC qual scope s.heap.objs.size f cdv).kindOf binds fun _ => none) (cellsFrom (s.heap.objs.size + 1) scope.names [])
        (bindC (envOfC qual scope s.heap.objs.size f cdv).kindOf binds fun _ => none) s₁ →
      wpAny (model prog w) (A.deeper (envOfC qual scope s.heap.objs.size f cdv)) (execs body (envOfC qual scope s.heap.objs.size f cdv))
        (fun fl s' => R (.ok (.ret (match fl with | .ret v => v | _ => .none))) s')
        (fun e s' => wpAny (model prog w) (A.deeper (envOfC qual scope s.heap.objs.size f cdv)) (leaving (envOfC qual scope s.heap.objs.size f cdv) e) (fun _ s'' => R (.error e) s'') (fun e' s'' => R (.error e') s'') s') s₁)
    (hco : scope.isCoroutine = false) (hgen : scope.isGenerator = false) (hk : scope.kind = .function) : codeAny (model prog w) A (.call (.ref f) args) R s := by
  refine codeAny_call_function hroom (X _ _ ho) rfl hco hgen rfl (codeRec_of X hcd) (hbind _ _ _ _ ?_)
  refine wpAny_newFunctionEnv_cells hk (kindsX hkind _) fun env he s₁ x => ?_
  subst he
  exact ⟨hlim.keeps x.toInCall.keep, codeAny_func (h s₁ x)⟩

/-- C(..): dict at size, instance at size + 1, then __init__ -/
theorem make_obj {R : Result → Shared → Prop} {C fI : Addr} {rest : List Value} {kw : List (Str × Value)}
    (X : K.In s.heap) (hm : makesIn K C = true) (hi : findIn K (.ref C) "__init__" = some (some (.ref fI))) (hf : isFn K (.ref fI) = true)
    (h : codeAny (model prog w) (A.under (.builtin "type.__call__" ⟨.ref C :: rest, kw⟩)) (.call (.ref fI) ⟨.ref (s.heap.objs.size + 1) :: rest, kw⟩) (InitBack (s.heap.objs.size + 1) R)
      { s with heap := (s.heap.push emptyDict).push (instObj C s.heap.objs.size) }) : codeAny (model prog w) A (.call (.ref C) ⟨rest, kw⟩) R s := by
  obtain ⟨hh, g, d, t, os⟩ := s
  exact make_core (makes_of X hm) (looks_findIn X hi) (fun self => bind_fn X self (beq_iff_eq.mp hf)) (.inl rfl) h

/-- x.name where the instance's dict holds the name and the class does not -/
theorem get_field {x C : Addr} {ox : Obj} {es : List DictEntry} {n : Nat} {name : Str} {expr : Bool} {v : Value} {Q : Value → Shared → Prop}
    (X : K.In s.heap) (I : PySem.W.InstAt s.heap x ox C (some (dictOf es n))) (hg : plainGet K C name = true) (hh : hasDictIn K C = true) (ha : findIn K (.ref C) name = some none)
    (hl : getL name es = some (some v)) (hv : handedIn v = true) (h : Q v { s with toks := s.toks + 1 }) : wpAny (model prog w) A (getAttr (.ref x) name expr) Q E s :=
  get_value X I (plainGet_of hg).1 (findObj_own hh ha rfl hl) hv h

/-- x.m(..): the method found in the class -/
theorem get_method {x C f : Addr} {ox : Obj} {es : List DictEntry} {n : Nat} {name : Str} {pl : Sem Bool} {Q : Value × List Value → Shared → Prop}
    (X : K.In s.heap) (I : PySem.W.InstAt s.heap x ox C (some (dictOf es n))) (hg : plainGet K C name = true) (hf : findIn K (.ref C) name = some (some (.ref f))) (ht : isFn K (.ref f) = true)
    (hl : getL name es = some none) (h : Q (.ref f, [.ref x]) s) : wpAny (model prog w) A (getMethod (.ref x) name pl) Q E s :=
  method_fn X I (plainGet_of hg).1 (plainGet_of hg).2 hf (beq_iff_eq.mp ht) (by show (lookIn name (dictOf es n)).map _ = _; rw [lookIn_dict, hl]; rfl) h

/-! the whole heap as the ledger: makes every rule that writes through a ledger a rule over any heap -/
def noObjs (h : Heap) : Heap := { h with objs := #[] }
theorem noObjs_get (h : Heap) (b : Addr) : (noObjs h).get? b = none := by
  cases e : (noObjs h).get? b with
  | none => rfl
  | some o => exact absurd (Heap.lt_size e) (Nat.not_lt_zero _)
def ledger (h : Heap) (L d : Addr) : List (Addr × Obj) := (List.range h.objs.size).filterMap fun a => if a = L ∨ a = d then none else (h.get? a).map fun o => (a, o)
theorem mem_ledger {h : Heap} {L d a : Addr} {o : Obj} : (a, o) ∈ ledger h L d ↔ a ≠ L ∧ a ≠ d ∧ h.get? a = some o := by
  unfold ledger
  rw [List.mem_filterMap]
  constructor
  · rintro ⟨b, _, e⟩
    split at e
    · cases e
    · rename_i hb
      obtain ⟨o', ho, e'⟩ := Option.map_eq_some_iff.mp e
      cases e'
      exact ⟨fun q => hb (.inl q), fun q => hb (.inr q), ho⟩
  · rintro ⟨n1, n2, ho⟩
    refine ⟨a, List.mem_range.mpr (Heap.lt_size ho), ?_⟩
    rw [if_neg (show ¬ (a = L ∨ a = d) from fun q => q.elim n1 n2), ho] <;> rfl
theorem news_ledger {h : Heap} {L d : Addr} {od : Obj} (hne : d ≠ L) (ho : h.get? d = some od) : News (noObjs h) L h ([] ++ (d, od) :: ledger h L d) := by
  rintro ⟨a, o⟩ hp
  rcases List.mem_cons.mp hp with e | hp
  · cases e
    exact ⟨ho, hne, noObjs_get _ _⟩
  · obtain ⟨n1, n2, e⟩ := mem_ledger.mp hp
    exact ⟨e, n1, noObjs_get _ _⟩
theorem fr_all {h : Heap} {L : Addr} {m : Str → Option Value} (n : h.Ns L m) : Fr (noObjs h) L h m :=
  ⟨n, fun b o e => (by rw [noObjs_get] at e; cases e), Nat.zero_le _⟩
/-- Upd of the head entry (for append_K, setItem_K ..) -/
theorem upd_ledger {h : Heap} {L d : Addr} {o o' : Obj} : Upd d o o' ((d, o) :: ledger h L d) ((d, o') :: ledger h L d) :=
  .head fun ⟨_, _⟩ hp => (mem_ledger.mp hp).2.1

/-- x.name = v over any heap: L is any namespace of the heap (the frame's, say): its map stays, its object is not told; all else but the dict stays -/
theorem set_field {x C dx L : Addr} {ox : Obj} {m : Str → Option Value} {es es' : List DictEntry} {n n' : Nat} {name : Str} {v : Value} {Q : Unit → Shared → Prop}
    (X : K.In s.heap) (I : PySem.W.InstAt s.heap x ox C (some (dictOf es n))) (hd : ox.dict = some dx) (hL : s.heap.Ns L m) (hne : dx ≠ L)
    (hs : findIn K (.ref C) "__setattr__" = some (some (.builtin "object.__setattr__"))) (hp : plainOver K C = true) (ht : takerIn K C name = some none) (hh : hasDictIn K C = true) (hl : (getL name es).isSome = true)
    (e : (putL name (PyData.keyHash w.params name) (.str name (s.toks + 1)) v es, putN name es n) = (es', n')) (hz : es'.length ≤ 1000)
    (h : ∀ h' : Heap, h'.Ns L m → h'.get? dx = some (dictOf es' n') → (∀ b o, b ≠ dx → b ≠ L → s.heap.get? b = some o → h'.get? b = some o) → Q () { s with heap := h', toks := s.toks + 2 }) :
    wpAny (model prog w) A (setAttr (.ref x) name v) Q E s := by
  obtain ⟨e1, e2⟩ := Prod.mk.inj e
  have hdx : s.heap.get? dx = some (dictOf es n) := by
    have := I.dict
    rw [hd] at this
    exact this
  refine set_plain X I hs (osa_dict (s := { s with toks := s.toks + 1 }) (h₀ := noObjs s.heap) (L := L) (m := m) (od := dictOf es n) (od' := dictOf es' n') (es := es') (n := n') (pre := []) (post := ledger s.heap L dx)
    (fr_all hL) (news_ledger hne hdx) X I hd hp ht hh hl (fun _ q => nomatch q) (fun ⟨_, _⟩ q => (mem_ledger.mp q).2.1) (by rw [putName_dict, e1, e2]) rfl hz fun h' F' N' => ?_)
  exact h h' F'.ns (N'.get (List.Mem.head _)) fun b o n1 n2 ho => N'.get (List.Mem.tail _ (mem_ledger.mpr ⟨n2, n1, ho⟩))
end
end Att

namespace L2
open PySem PySem.Spec PyProof.Rows

theorem vals_ints : ∀ {vs : List Value} {ns : List Int}, IntsAre vs ns → Vals (ns.map V.int) vs
  | _, _, .nil => .nil
  | _, _, .cons n t h => .cons ⟨t, rfl⟩ (vals_ints h)

/-- nothing is tracked but the script, known to the object (or it is an object of the module) -/
def Only (H : Hp) : Prop := ∀ b, H b = none ∨ ∃ o xs, H b = some (.frz o (.lst xs))

/-- THE HEAD: the law's promise, at the heap behind the top. F, the promise of the law's def, may use that base is part of the heap (so K.In base, base.Ns mainGlobals mg stand in Mod) -/
theorem law_call {P : Program} {w : World} {K : PySem.W.Frag} {mg mb : Str → Option Value} {CX : CXT} {k : Nat} {fa a : Addr} {fd : FuncData} {x : Str} {sp : Sp} {s₁ : Shared} {vs : List Value} {ns : List Int}
    (KX : K.In s₁.heap) (hns : s₁.heap.Ns mainGlobals mg) (hb : s₁.heap.Ns builtinsNs mb) (hbb : ∀ x : Str, x ≠ "__name__" → mb x = bootBuiltins x) (hlim : s₁.heap.NoLimit) (hg : s₁.gens = #[])
    (ha : s₁.heap.get? a = some { cls := .type "list", data := .seq vs.toArray }) (hi : IntsAre vs ns) (hl : ns.length ≤ sizeLine) (hr : Room k callerA)
    (F : ∀ base : Heap, K.In base → base.Ns mainGlobals mg → FnOk P w K mg base CX k fa fd [x] sp) (hbind : ∀ (s : Shared) (u : Value), BindsTo s fd ⟨[u], []⟩ [(x, u)])
    (hsp : ∀ H : Hp, Only H → SqL K H a (ns.map V.int) → sp [.ref a] H (fun v _ => v = .bl true) fun _ _ _ => False)
    (hCX : ∀ H e s', CX [] H s₁ (fun _ _ _ => False) e s' → False) :
    codeAny (model P w) callerA (.call (.ref fa) ⟨[.ref a], []⟩) (fun r s' => r = .ok (.ret (.bool true)) ∧ OldK s₁.heap s'.heap ∧ s'.os = s₁.os ∧ AllBare s'.gens) s₁ := by
  have rv := vals_ints hi
  have lenV := hi.length
  -- from an abstract heap in which nothing but the script may be tracked
  have core : ∀ H : Hp, Only H → SqL K H a (ns.map V.int) → HOk P w H s₁.heap → (∀ b, H b ≠ none → b = a) → (H a ≠ none → K.lookup a = none) →
      codeAny (model P w) callerA (.call (.ref fa) ⟨[.ref a], []⟩) (fun r s' => r = .ok (.ret (.bool true)) ∧ OldK s₁.heap s'.heap ∧ s'.os = s₁.os ∧ AllBare s'.gens) s₁ := by
    intro H hO hS hok hA hK
    have base_of : ∀ {b : Addr} {o : Obj}, s₁.heap.get? b = some o → H b = none → (hidT s₁.heap H).get? b = some o := fun e n => hidT_get e n
    have noA : ∀ {b : Addr} {o : Obj} {es : Array DictEntry} {ep : Nat}, s₁.heap.get? b = some o → o.data = .dict es ep → H b = none := fun {b o es ep} e d => by
      cases q : H b with
      | none => rfl
      | some u =>
        have e' : b = a := hA b (by rw [q]; simp)
        subst e'
        rw [ha] at e; cases e
        have d' : Data.seq vs.toArray _ = Data.dict es ep := d
        cases d'
    have nsK : ∀ {b : Addr} {m : Str → Option Value}, s₁.heap.Ns b m → (hidT s₁.heap H).Ns b m := fun {b m} ⟨o, es, ep, e, d, r⟩ => ⟨o, es, ep, base_of e (noA e d), d, r⟩
    have hKb : K.In (hidT s₁.heap H) := fun b o e => base_of (KX b o e) (by
      cases q : H b with
      | none => rfl
      | some u =>
        have e' : b = a := hA b (by rw [q]; simp)
        subst e'
        rw [hK (by rw [q]; simp)] at e; cases e)
    have hM : Mod K mg (hidT s₁.heap H) := ⟨hKb, nsK hns, ⟨mb, nsK hb, hbb⟩, let ⟨mc, h1, h2⟩ := hlim; ⟨mc, nsK h1, h2⟩⟩
    have e0 : Env0 P w K mg (hidT s₁.heap H) callerA [] s₁ H := ⟨rfl, hM, fun b o e => of_hidT e, Nat.le_of_eq (hidT_size _ _), trivial, fun b hb => absurd (show b ∈ ([] : List Addr) from hb) (by simp), hok, .of_eq hg⟩
    refine codeAny_mono ((F _ hKb (nsK hns)).run callerA [] s₁ H ⟨[.ref a], []⟩ [.ref a] [.ref a] _ _ hr e0 (hbind s₁ (.ref a)) (.cons rfl .nil) (hsp H hO hS)) fun r s' h => ?_
    cases r with
    | error e => exact (hCX H e s' h).elim
    | ok fl =>
      cases fl with
      | next => exact False.elim h
      | brk => exact False.elim h
      | cont => exact False.elim h
      | ret u =>
        obtain ⟨v, H', os, bare, un, hok', r', q⟩ := h
        have q' : v = .bl true := q
        subst q'
        obtain rfl : u = Value.bool true := r'
        refine ⟨rfl, OldK.of_keep fun b o e => ?_, os, bare⟩
        cases q : H b with
        | none => exact un.keep b o e q (by intro z; exact absurd (show b ∈ ([] : List Addr) from z) (by simp)) (by simp)
        | some u =>
          rcases hO b with z | ⟨ob, xs, z⟩
          · rw [q] at z; cases z
          · have z2 := un.frzs b ob _ z
            obtain ⟨e1, _⟩ := hok b _ z
            obtain ⟨e2, _⟩ := hok' b _ z2
            rw [e] at e1; cases e1
            exact e2
  cases hk : K.lookup a with
  | some o =>
    -- the script is one of the module's own objects
    have e := KX a o hk
    rw [ha] at e
    cases e
    refine core (fun _ => none) (fun _ => .inl rfl) (.inr ⟨_, vs.toArray, _, hk, rfl, rfl, rfl, by rw [List.size_toArray, lenV]; exact hl, by simpa using rv⟩) (fun b u z => by have z' : (none : Option HO) = some u := z; cases z') (fun b z => absurd rfl z) fun z => absurd rfl z
  | none =>
    refine core (fun b => if b = a then some (.frz { cls := .type "list", data := .seq vs.toArray } (.lst (ns.map V.int))) else none) (fun b => ?_) (.inl (.inr ⟨{ cls := .type "list", data := .seq vs.toArray }, if_pos rfl⟩)) (fun b u z => ?_) (fun b z => ?_) fun _ => hk
    · by_cases hb : b = a
      · exact .inr ⟨_, _, if_pos hb⟩
      · exact .inl (if_neg hb)
    · by_cases hb : b = a
      · have z' := (if_pos hb).symm.trans z
        cases z'
        subst hb
        exact ⟨ha, by rw [List.length_map]; exact hl, vs, _, rv, ha⟩
      · have z' := (if_neg hb).symm.trans z
        cases z'
    · by_cases hb : b = a
      · exact hb
      · exact absurd (if_neg hb) z
end L2

namespace L2
open PySem PySem.Spec PyProof.Rows

abbrev KOf {K : PySem.W.Frag} {h : Heap} (_ : K.In h) : PySem.W.Frag := K

/-- the goal that k_head leaves (case hc), from the law's promise. F gives the function object fd (K's own) once, then the promise over every base -/
theorem walk_of {l : PySem.W.OpenLaw} {n k : Nat} {q : Program} {loose : List Str} {XP : (Str → Option Value) → Heap → Prop} {YP : World → Heap → Prop} {d : DefRec} {K : Params → PySem.W.Frag} {CX : World → CXT} {sp : World → Sp} {x : Str}
    (hn : l.most = some n) (hn2 : n ≤ sizeLine) (hdf : d.params.defaults = []) (hr : Room k callerA)
    (hY : ∀ (w : World) (h : Heap), YP w h → (K w.params).In h)
    (F : ∀ (w : World) (mg : Str → Option Value) (fa : Addr) (h : Heap), (K w.params).In h → h.Ns mainGlobals mg → mg d.name = some (.ref fa) →
      ∃ fd : FuncData, (∀ (s : Shared) (u : Value), BindsTo s fd ⟨[u], []⟩ [(x, u)]) ∧
        ∀ base : Heap, (K w.params).In base → base.Ns mainGlobals mg → FnOk l.prog w (K w.params) mg base (CX w) k fa fd [x] (sp w))
    (hsp : ∀ (w : World) (H : Hp) (a : Addr) (ns : List Int), ns.length ≤ n → Only H → SqL (K w.params) H a (ns.map V.int) → sp w [.ref a] H (fun v _ => v = .bl true) fun _ _ _ => False)
    (hCX : ∀ (w : World) (H : Hp) (s : Shared) (e : Value) (s' : Shared), CX w [] H s (fun _ _ _ => False) e s' → False) :
    PySem.W.WalkO q loose XP YP l.row.toRowW d [] (fun f vs => PySem.call f vs) := by
  refine Att.attach_call hn hdf fun w s₀ s₁ mg mb fa o pm cd doc a vs ns G Y ho hd hcd hmg hobj hints hlen hg => ?_
  have KX := hY w _ Y
  obtain ⟨fd, hb, hF⟩ := F w mg fa _ KX G.T.g hmg
  exact law_call KX G.T.g G.T.b G.T.builtins G.T.nolimit hg hobj hints (Nat.le_trans hlen hn2) hr hF hb (fun H hO hS => hsp w H a ns hlen hO hS) fun H e s' => hCX w H s₁ e s'
/-- the same where the promise hangs on the written part alone: (sp := My.sp_law), no hole under a binder -/
theorem walk_ofK {l : PySem.W.OpenLaw} {n k : Nat} {q : Program} {loose : List Str} {XP : (Str → Option Value) → Heap → Prop} {YP : World → Heap → Prop} {d : DefRec} {K : Params → PySem.W.Frag} {CX : CXT} {sp : PySem.W.Frag → Sp} {x : Str}
    (hn : l.most = some n) (hn2 : n ≤ sizeLine) (hdf : d.params.defaults = []) (hr : Room k callerA)
    (hY : ∀ (w : World) (h : Heap), YP w h → (K w.params).In h)
    (F : ∀ (w : World) (mg : Str → Option Value) (fa : Addr) (h : Heap), (K w.params).In h → h.Ns mainGlobals mg → mg d.name = some (.ref fa) →
      ∃ fd : FuncData, (∀ (s : Shared) (u : Value), BindsTo s fd ⟨[u], []⟩ [(x, u)]) ∧
        ∀ base : Heap, (K w.params).In base → base.Ns mainGlobals mg → FnOk l.prog w (K w.params) mg base CX k fa fd [x] (sp (K w.params)))
    (hsp : ∀ (K : PySem.W.Frag) (H : Hp) (a : Addr) (ns : List Int), ns.length ≤ n → Only H → SqL K H a (ns.map V.int) → sp K [.ref a] H (fun v _ => v = .bl true) fun _ _ _ => False)
    (hCX : ∀ (H : Hp) (s : Shared) (e : Value) (s' : Shared), CX [] H s (fun _ _ _ => False) e s' → False) :
    PySem.W.WalkO q loose XP YP l.row.toRowW d [] (fun f vs => PySem.call f vs) :=
  walk_of (K := K) (CX := fun _ => CX) (sp := fun w => sp (K w.params)) hn hn2 hdf hr hY F (fun w H a ns h1 h2 h3 => hsp (K w.params) H a ns h1 h2 h3) fun _ H s e s' => hCX H s e s'
end L2

/- THE LAST THEOREM (shape; LID, My.* are yours):
   My.Adr: a structure of the addresses that your layer names (classes, functions); My.Txt K t: a structure (Prop) of the equations over K;
   My.txt_mk : {K} {implicit addresses ..} (e1 : nsIn K mainGlobals "law" = some (some (.ref f))) (e2 : K.lookup f = some ⟨oc, od, .func (fnOf "law" "law" params body scope dV kV doc pm an cdv ct), sl⟩) (e3 : codeIn K cdv "law" = true) .. : ∃ t, My.Txt K t

set_option maxRecDepth 100000 in
set_option maxHeartbeats 0 in
theorem PySem.Challenge.cw_LID_holds : PySem.Challenge.rw_LID.Holds := by
  w_on; o_law; k_head; (case hw => w_witness2)
  k_fill
  refine L2.walk_of (l := PySem.Challenge.rw_LID) (n := 63) (k := 40) (x := "script") (CX := fun w => ..) (sp := fun _ => My.sp_law) rfl (by decide) rfl ⟨rfl, by decide, by decide⟩ (fun w h Y => PySem.W.kIn_of Y) ?F ?S ?C
  case F =>
    intro w mg fa h KX G hmg
    have T : ∃ t, My.Txt (L2.KOf KX) t := by
      dsimp only [L2.KOf]                          -- K must stand as «<heap const> w.params» for k_is
      refine' My.txt_mk ?e1 ?e2 ?e3 ..
      (case e1 => PySem.W.k_is)                    -- in the order: a name -> its address -> its object -> its parts
      (case e2 => PySem.W.k_is)
      ..
    obtain ⟨t, T⟩ := T
    have e0 := hmg.symm.trans (PySem.W.mg_of KX G T.law)
    cases e0                                       -- fa is the law's own address
    exact ⟨_, fun s u => .of_eq rfl, fun base kb nb => My.law_fn T kb nb⟩     -- if «.of_eq rfl» comes too early: refine' ⟨_, ?b, fun base kb nb => My.law_fn T kb nb⟩; exact fun s u => .of_eq rfl
  case S => exact fun w H a ns hl hO hS => ..
  case C => exact ..
(the tactic k_is has no namespace: write k_is) -/

/-! SHORT WORDS over the layer: a def of the text, its body, what a loop and a test want. -/
namespace L2
open PySem PySem.Spec PyProof.Rows

/-! ### the text by places -/
/-- the j-th statement of a class's body -/
def inClass (s : Stmt) (j : Nat) : Stmt := match s with
  | .ClassDef _ _ _ body _ _ _ _ _ _ _ => body.getD j (.Pass ⟨0, 0, 0, 0⟩)
  | _ => .Pass ⟨0, 0, 0, 0⟩
def defArgs (s : Stmt) : Arguments := match s with
  | .FunctionDef _ a _ _ _ _ _ _ _ _ => a
  | _ => { posonlyargs := [], args := [], vararg := none, kwonlyargs := [], kw_defaults := [], kwarg := none, defaults := [] }
def defBody (s : Stmt) : List Stmt := match s with
  | .FunctionDef _ _ b _ _ _ _ _ _ _ => b
  | _ => []
def defScope (s : Stmt) : Scope := match s with
  | .FunctionDef _ _ _ _ _ _ sc _ _ _ => sc
  | _ => { kind := .function, names := [], isGenerator := false, isCoroutine := false }

/-! ### no exception leaves a def -/
abbrev CX0 : CXT := fun _ _ _ _ _ _ => False
abbrev E0 : XK := fun _ _ _ => False
theorem pass0 {X : Cx} : Passes CX0 X E0 := fun _ _ _ _ _ _ _ h => h.elim

/-! ### a def (or method) of the text as it stands behind the top -/
structure Fun (K : PySem.W.Frag) (x qual : Str) (st : Stmt) (f : Addr) (fd : FuncData) : Prop where
  ex : ∃ (oc : Value) (od : Option Addr) (kV doc pm : Value) (an : Option Addr) (cdv ct : Value) (osl : Array (Option Value)),
    fd = PySem.W.fnOf x qual (defArgs st) (defBody st) (defScope st) .none kV doc pm an cdv ct ∧ K.lookup f = some ⟨oc, od, .func fd, osl⟩ ∧ PySem.W.codeIn K cdv qual = true
  kp : PySem.W.keepIn K (.ref f) = true
section
variable {P : Program} {w : World} {K : PySem.W.Frag} {mg : Str → Option Value} {base : Heap}
/-- THE RULE for a def: its body as a term of rules, and the reading of that term -/
theorem Fun.ok {x qual : Str} {st : Stmt} {f : Addr} {fd : FuncData} {N ps : List Str} {k : Nat} {sp : Sp} (F : Fun K x qual st f fd) (S : FnScope N ps (defScope st)) (len : ∀ vs H Q E, sp vs H Q E → vs.length = ps.length)
    (hbody : ∀ (cdv : Value) (A : Around) (outer : List Env) (s : Shared) (H : Hp) (vs : List V) (Q : VK) (E : XK), Room k (A.deeper (envOfC qual (defScope st) s.heap.objs.size f cdv)) → sp vs H Q E →
      ∃ t, PSs (cxOf CX0 P w K mg base N qual (defScope st) f cdv A outer s H E).nox (defBody st) t ∧ t { nx := fun _ H' => Q .non H', rt := Q } (start N vs) H) : FnOk P w K mg base CX0 (k + 1) f fd ps sp := by
  obtain ⟨oc, od, kV, doc, pm, an, cdv, ct, osl, rfl, lk, hcd⟩ := F.ex
  refine fn_of lk hcd S len fun A outer s H vs Q E hr hsp => ?_
  obtain ⟨t, h, q⟩ := hbody cdv A outer s H vs Q E hr hsp
  exact ⟨t, h.nox, q⟩
/-- how its arguments bind (no defaults): h is «fun _ _ _ _ _ _ us hl => match us, hl with | [_, _], _ => rfl», one _ a parameter -/
theorem Fun.binds {x qual : Str} {st : Stmt} {f : Addr} {fd : FuncData} {ps : List Str} (F : Fun K x qual st f fd)
    (h : ∀ (kV doc pm : Value) (an : Option Addr) (cdv ct : Value) (us : List Value), us.length = ps.length → bindArgs (PySem.W.fnOf x qual (defArgs st) (defBody st) (defScope st) .none kV doc pm an cdv ct) ⟨us, []⟩ = pure (ps.zip us)) : Binds K fd ps [] := by
  obtain ⟨oc, od, kV, doc, pm, an, cdv, ct, osl, rfl, lk, hcd⟩ := F.ex
  exact .all (h kV doc pm an cdv ct)
theorem fun_mk {x qual : Str} {st : Stmt} {f : Addr} {oc : Value} {od an : Option Addr} {osl : Array (Option Value)} {kV doc pm cdv ct : Value} (l : K.lookup f = some ⟨oc, od, .func (PySem.W.fnOf x qual (defArgs st) (defBody st) (defScope st) .none kV doc pm an cdv ct), osl⟩)
    (c : PySem.W.codeIn K cdv qual = true) (k : PySem.W.keepIn K (.ref f) = true) : Fun K x qual st f (PySem.W.fnOf x qual (defArgs st) (defBody st) (defScope st) .none kV doc pm an cdv ct) := ⟨⟨oc, od, kV, doc, pm, an, cdv, ct, osl, rfl, l, c⟩, k⟩
end
theorem hu_of {A : Around} {k : Nat} (hr : Room k A) : A.units + 1 < cLine := Nat.lt_of_le_of_lt (Nat.add_le_add_left (by decide : 1 ≤ 64) _) hr.units
theorem small1000 {n : Nat} (h : n ≤ 1000) : n < sizeLine := Nat.lt_of_le_of_lt h (by decide)

/-! ### expressions in short: the name that stands in the i-th slot -/
section
variable {X : Cx}
theorem pv (i : Nat) {x : Str} {pos : Pos} (hN : X.N[i]? = some x := by rfl) (hv : Vis X.env.scope x := by first | exact Or.inl rfl | exact Or.inr (Or.inl rfl) | exact Or.inr (Or.inr rfl)) (hd : (x == ("__debug__" : Str)) = false := by decide)
    (hcd : (x == ("__classdict__" : Str)) = false := by decide) : PE X (.Name x pos) (tVar i) := pe_var hN hv hd hcd
end

/-! ### tests -/
theorem iteF {A B : Prop} (h : B) : if false = true then A else B := by
  rw [if_neg Bool.false_ne_true]
  exact h
theorem iteT {A B : Prop} (h : A) : if true = true then A else B := by
  rw [if_pos rfl]
  exact h
theorem ite2 {c A B : Prop} [Decidable c] (h1 : c → A) (h2 : ¬ c → B) : if c then A else B := by
  by_cases h : c
  · rw [if_pos h]
    exact h1 h
  · rw [if_neg h]
    exact h2 h
theorem iteNS {c A B : Prop} [Decidable c] (hc : c) (h : B) : if (!decide c) = true then A else B := by
  rw [decide_eq_true hc]
  exact iteF h

/-! ### heaps -/
/-- all that was tracked is as it was -/
def Same (H H' : Hp) : Prop := ∀ b o, H b = some o → H' b = some o
theorem Same.refl (H : Hp) : Same H H := fun _ _ h => h
theorem Same.trans {H H1 H2 : Hp} (a : Same H H1) (b : Same H1 H2) : Same H H2 := fun c o h => b c o (a c o h)
theorem Same.free {H H' : Hp} (e : Same H H') {l : Addr} (h : H' l = Option.none) : H l = Option.none := by
  cases q : H l with
  | none => rfl
  | some o =>
    rw [e l o q] at h
    cases h
theorem Same.seq {K : PySem.W.Frag} {H H' : Hp} {a : Addr} {xs : List V} (e : Same H H') (h : SqL K H a xs) : SqL K H' a xs := by
  rcases h with (h | ⟨o, h⟩) | h
  · exact .inl (.inl (e _ _ h))
  · exact .inl (.inr ⟨o, e _ _ h⟩)
  · exact .inr h

end L2

set_option Elab.async false
set_option linter.all false
set_option maxRecDepth 100000
set_option maxHeartbeats 4000000
/-! WHAT A DEF LEAVES BEHIND: only what it hands back. -/
namespace L3
open PySem PySem.Spec PyProof.Rows L2

theorem same_upd {H : Hp} {p : Addr} {o : HO} (h : H p = none) : Same H (upd H p o) := fun b u e => by
  rw [upd_ne (ne_of_none e h)]; exact e
theorem same_to {H H' : Hp} {p : Addr} {o : HO} (s : Same H H') (h : H p = none) : Same H (upd H' p o) := fun b u e => by
  rw [upd_ne (ne_of_none e h)]; exact s b u e

def newO : HO → Prop
  | .lst _ => True
  | .tup _ => True
  | _ => False
def Rst (H H' : Hp) (P : Hp → Prop) : Prop := ∃ Hr, Same H Hr ∧ Same Hr H' ∧ (∀ a o, Hr a = some o → H a = some o ∨ newO o) ∧ P Hr
theorem Rst.same {H H' : Hp} {P : Hp → Prop} (s : Same H H') (p : P H) : Rst H H' P := ⟨H, Same.refl H, s, fun _ _ e => .inl e, p⟩
theorem Rst.one {H H' : Hp} {P : Hp → Prop} {p : Addr} {o : HO} (s : Same H H') (n : H p = none) (e : H' p = some o) (no : newO o) (q : P (upd H p o)) : Rst H H' P :=
  ⟨upd H p o, same_upd n, fun b u z => by
    by_cases hb : b = p
    · subst hb; rw [upd_same] at z; cases z; exact e
    · rw [upd_ne hb] at z; exact s b u z, fun b u z => by
    by_cases hb : b = p
    · subst hb; rw [upd_same] at z; cases z; exact .inr no
    · rw [upd_ne hb] at z; exact .inl z, q⟩
theorem Rst.more {H H1 H' : Hp} {P : Hp → Prop} (s : Same H H1) (n : ∀ a o, H1 a = some o → H a = some o ∨ newO o) (r : Rst H1 H' P) : Rst H H' P := by
  obtain ⟨Hr, s1, s2, hn, q⟩ := r
  exact ⟨Hr, s.trans s1, s2, fun a o e => by
    rcases hn a o e with z | z
    · exact n a o z
    · exact .inr z, q⟩

section
variable {P : Program} {w : World} {H Hr H' : Hp} {h h' : Heap}
theorem objOk_rst {a : Addr} {o : HO} (s1 : Same H Hr) (x0 : ObjOk P w H h a o) (x : ObjOk P w H' h' a o) : ObjOk P w Hr h' a o := by
  induction o with
  | ins C dx fs => exact ⟨s1 _ _ x0.1, x.2⟩
  | frz ob u ih => exact ⟨x.1, ih x0.2 x.2⟩
  | lst xs => exact x
  | tup xs => exact x
  | dK kvs => exact x
  | dT kvs => exact x
  | set S n => exact x
  | own y => exact x
  | xd fs => exact x
  | rng lo hi => exact x
  | tbl ps => exact x
  | met f y => exact x
  | ext φ => exact x
theorem hok_rst (e0 : HOk P w H h) (k : HOk P w H' h') (s1 : Same H Hr) (s2 : Same Hr H') (hn : ∀ a o, Hr a = some o → H a = some o ∨ newO o) : HOk P w Hr h' := fun a o e => by
  have x := k a o (s2 a o e)
  rcases hn a o e with z | z
  · exact objOk_rst s1 (e0 a o z) x
  · cases o with
    | lst xs => exact x
    | tup xs => exact x
    | _ => exact False.elim z
theorem un_rst {fs ex : List Addr} (u : Un fs ex H H' h h') (s1 : Same H Hr) (s2 : Same Hr H') : Un fs ex H Hr h h' where
  keep := u.keep
  slot := u.slot
  free := fun b o e n hx => s2.free (u.free b o e n hx)
  there := u.there
  tups := fun b xs e => s1 b _ e
  frzs := fun b o x e => s1 b _ e
  tbls := fun b ps e => ⟨#[], by rw [s1 b _ e]; simp⟩
end

section
variable {P : Program} {w : World} {K : PySem.W.Frag} {mg : Str → Option Value} {base : Heap} {CX : CXT} {k : Nat} {f : Addr} {fd : FuncData} {ps : List Str} {sp : Sp}
def SpR (sp : Sp) : Sp := fun vs H Q2 E => ∃ Q : VK, (∀ v H', Rst H H' (Q v) → Q2 v H') ∧ sp vs H Q E
theorem FnOk.rst (F : FnOk P w K mg base CX k f fd ps (SpR sp)) : FnOk P w K mg base CX k f fd ps sp :=
  ⟨fun vs H Q E h => F.len vs H (fun v H' => Rst H H' (Q v)) E ⟨Q, fun _ _ z => z, h⟩, fun A outer s H args us vs Q E hr he hb hv hs =>
    codeAny_mono (F.run A outer s H args us vs (fun v H' => Rst H H' (Q v)) E hr he hb hv ⟨Q, fun _ _ z => z, hs⟩) fun r s' hq => by
      cases r with
      | error e => exact hq
      | ok fl =>
        cases fl with
        | ret u =>
          obtain ⟨v, H', e1, e2, e3, e4, e5, Hr, s1, s2, hn, q⟩ := hq
          exact ⟨v, Hr, e1, e2, un_rst e3 s1 s2, hok_rst he.hok e4 s1 s2 hn, e5, q⟩
        | next => exact False.elim hq
        | brk => exact False.elim hq
        | cont => exact False.elim hq⟩
/-- a def that raises nothing and leaves nothing behind: its body as a term of rules, and the reading of that term -/
theorem Fun.okR {x qual : Str} {st : Stmt} {f : Addr} {fd : FuncData} {N ps : List Str} {k : Nat} {sp : Sp} (F : Fun K x qual st f fd) (S : FnScope N ps (defScope st)) (len : ∀ vs H Q E, sp vs H Q E → vs.length = ps.length)
    (hbody : ∀ (cdv : Value) (A : Around) (outer : List Env) (s : Shared) (H : Hp) (vs : List V) (Q Q2 : VK) (E : XK), Room k (A.deeper (envOfC qual (defScope st) s.heap.objs.size f cdv)) → sp vs H Q E → (∀ v H', Rst H H' (Q v) → Q2 v H') →
      ∃ t, PSs (cxOf CX0 P w K mg base N qual (defScope st) f cdv A outer s H E).nox (defBody st) t ∧ t { nx := fun _ H' => Q2 .non H', rt := Q2 } (start N vs) H) : FnOk P w K mg base CX0 (k + 1) f fd ps sp :=
  FnOk.rst (F.ok S (fun vs H Q2 E ⟨Q, _, h⟩ => len vs H Q E h) fun cdv A outer s H vs Q2 E hr ⟨Q, hq, h⟩ => hbody cdv A outer s H vs Q Q2 E hr h hq)
end
end L3

set_option Elab.async false
set_option linter.all false
set_option maxRecDepth 100000
set_option maxHeartbeats 4000000
/-! A COMPREHENSION over the layer: its block is a context of its own. -/
namespace L3
open PySem PySem.Spec PyProof.Rows L2

abbrev NE : Value → Shared → Prop := fun _ _ => False

/-- the tests of a clause -/
def PTs (X : Cx) (cs : List Expr) (t : TT) : Prop :=
  ∀ (pins : List (Addr × Obj)) (s : Shared) (σ : L2.St) (H : Hp) (Q : Bool → Hp → Prop), Inv X pins σ H s → t σ H Q →
    wpAny (model X.prog X.w) X.A (forIn cs true fun c r => if r = true then do let ok ← isTrue c X.env (eval c X.env); pure (ForInStep.yield ok) else pure (ForInStep.yield r)) (TP X pins σ Q) X.xe s
def tYes : TT := fun _ H Q => Q true H
theorem pts_nil {X : Cx} : PTs X [] tYes := fun _ _ _ H _ I h => wpAny_tests_nil ⟨H, I, h⟩
theorem pts_one {X : Cx} {c : Expr} {t : TT} (h : PT X c t) : PTs X [c] t := fun pins s σ H Q I q => wpAny_tests_one (h pins s σ H Q I q)

section
variable {prog : Program} {w : World} {A : Around} {R : Result → Shared → Prop} {s : Shared}
/-- the loop of a comprehension that raises nothing, any target -/
theorem compLoop_any {elt target iter : Expr} {ifs : List Expr} {scope : Scope} {pos : Pos} {it acc : Value} {env : Env} (I : Nat → Shared → Prop)
    (turn : ∀ n s, I n s → wpAny (model prog w) A (pyNext it) (fun r s₁ => match r with
      | none => R (.ok .next) s₁
      | some v => wpAny (model prog w) A (letOwnedTupleGo target it v) (fun _ s₀ => wpAny (model prog w) A (assign target env v) (fun _ s₂ =>
          wpAny (model prog w) A (forIn ifs true fun c r => if r = true then do let ok ← isTrue c env (eval c env); pure (ForInStep.yield ok) else pure (ForInStep.yield r)) (fun ok s₃ =>
            if ok = true then wpAny (model prog w) A (eval elt env) (fun x s₄ =>
              wpAny (model prog w) A (call (.builtin "list.append") [acc, x]) (fun _ s₅ => ∃ m, m < n ∧ I m s₅) NE s₄) NE s₃
            else ∃ m, m < n ∧ I m s₃) NE s₂) NE s₀) NE s₁) NE s)
    (n : Nat) (h : I n s) :
    codeAny (model prog w) A (.compLoop (.ListComp elt [⟨target, iter, ifs, 0⟩] scope pos) 0 it acc env) R s := by
  refine codeAny_loop rfl I (fun n s hI => ?_) n h
  show wpAny _ A ((compTurn (.ListComp elt [⟨target, iter, ifs, 0⟩] scope pos) 0 it acc env).onRaise (fun x => do noteFrame x env; theTreesLotGoes x)) _ _ s
  refine wpAny_noted (wpAny_mono (E := NE) ?_ (fun _ _ q => q) fun _ _ f => f.elim)
  rw [compTurn_list]
  refine wpAny_bind (wpAny_standAt (wpAny_bind (wpAny_mono (turn n s hI) (fun r s₁ h₁ => ?_) fun _ _ h' => h')))
  cases r with
  | none => exact wpAny_pure h₁
  | some v =>
    refine wpAny_bind (wpAny_mono h₁ (fun _ s₀ h₀ => ?_) fun _ _ h' => h')
    refine wpAny_bind (wpAny_mono h₀ (fun _ s₂ h₂ => wpAny_bind (wpAny_mono h₂ (fun ok s₃ h₃ => ?_) fun _ _ h' => h')) fun _ _ h' => h')
    cases ok with
    | false => exact wpAny_pure ⟨rfl, h₃⟩
    | true =>
      exact wpAny_bind (wpAny_bind (wpAny_mono h₃ (fun x s₄ h₄ => wpAny_bind (wpAny_mono h₄ (fun _ s₅ h₅ => wpAny_pure (wpAny_pure ⟨rfl, h₅⟩)) fun _ _ h' => h')) fun _ _ h' => h'))
end

/-! ### the closure of a block -/
theorem closure_go {env : Env} : ∀ (names : List (Str × NameKind)) (cs : List (Str × Addr)), (∀ y ∈ names, y.2 = .free → ∃ c, env.cells.lookup y.1 = some c) → (∀ x c, cs.lookup x = some c → env.cells.lookup x = some c) →
    ∃ cl, (forIn names cs (fun (y : Str × NameKind) r => if (y.2 == .free) = true then do let a ← cellOf env y.1; pure (ForInStep.yield ((y.1, a) :: r)) else pure (ForInStep.yield r)) : Sem (List (Str × Addr))) = pure cl ∧
      (∀ x c, cl.lookup x = some c → env.cells.lookup x = some c) ∧ (∀ x, (∃ c, cs.lookup x = some c) → ∃ c, cl.lookup x = some c) ∧ (∀ y ∈ names, y.2 = .free → ∃ c, cl.lookup y.1 = some c)
  | [], cs, _, h => ⟨cs, rfl, h, fun _ z => z, fun _ z => nomatch z⟩
  | y :: r, cs, hn, h => by
    by_cases hy : y.2 = .free
    · obtain ⟨c, hc⟩ := hn y List.mem_cons_self hy
      have hc' : cellOf env y.1 = pure c := by unfold cellOf; rw [hc]
      have h2 : ∀ x d, ((y.1, c) :: cs).lookup x = some d → env.cells.lookup x = some d := fun x d e => by
        rw [List.lookup_cons] at e
        by_cases hx : x = y.1
        · subst hx
          rw [show (y.1 == y.1) = true from beq_self_eq_true _] at e
          cases e
          exact hc
        · rw [show (x == y.1) = false from beq_eq_false_iff_ne.mpr hx] at e
          exact h x d e
      obtain ⟨cl, e1, e2, e3, e4⟩ := closure_go r ((y.1, c) :: cs) (fun z hz => hn z (List.mem_cons_of_mem _ hz)) h2
      refine ⟨cl, ?_, e2, fun x hx => e3 x ?_, fun z hz hf => ?_⟩
      · rw [List.forIn_cons, hy, if_pos (by decide), hc']
        exact e1
      · obtain ⟨d, hd⟩ := hx
        rw [List.lookup_cons]
        by_cases hx : x = y.1
        · exact ⟨c, by rw [show (x == y.1) = true from beq_iff_eq.mpr hx]⟩
        · exact ⟨d, by rw [show (x == y.1) = false from beq_eq_false_iff_ne.mpr hx]; exact hd⟩
      · rcases List.mem_cons.mp hz with rfl | hz
        · exact e3 z.1 ⟨c, by rw [List.lookup_cons, show (z.1 == z.1) = true from beq_self_eq_true _]⟩
        · exact e4 z hz hf
    · obtain ⟨cl, e1, e2, e3, e4⟩ := closure_go r cs (fun z hz => hn z (List.mem_cons_of_mem _ hz)) h
      refine ⟨cl, ?_, e2, e3, fun z hz hf => ?_⟩
      · rw [List.forIn_cons, if_neg (by intro q; exact hy (beq_iff_eq.mp q))]
        exact e1
      · rcases List.mem_cons.mp hz with rfl | hz
        · exact absurd hf hy
        · exact e4 z hz hf
theorem closure_ok {scope : Scope} {env : Env} (hn : ∀ y ∈ scope.names, y.2 = .free → ∃ c, env.cells.lookup y.1 = some c) :
    ∃ cl, closureFor scope env = pure cl ∧ (∀ x c, cl.lookup x = some c → env.cells.lookup x = some c) ∧ (∀ y ∈ scope.names, y.2 = .free → ∃ c, cl.lookup y.1 = some c) := by
  obtain ⟨cl, e1, e2, _, e4⟩ := closure_go (env := env) scope.names [] hn (fun x c e => by rw [List.lookup_nil] at e; cases e)
  refine ⟨cl, ?_, e2, e4⟩
  unfold closureFor
  exact (congrArg (· >>= pure) e1)

theorem relabel_back {env : Env} {x : Str} : ∀ {names : List (Str × NameKind)}, (∀ y ∈ names, y.2 ≠ .cell) →
    ((names.map fun (n, k) => if (k == NameKind.free && env.scope.kind == .function && env.kindOf n == some .cell) then (n, NameKind.cell) else (n, k)).lookup x = some .cell ∨
      (names.map fun (n, k) => if (k == NameKind.free && env.scope.kind == .function && env.kindOf n == some .cell) then (n, NameKind.cell) else (n, k)).lookup x = some .free) → names.lookup x = some .free
  | [], _, h => by rcases h with h | h <;> (rw [List.map_nil, List.lookup_nil] at h; cases h)
  | (n, k) :: r, hc, h => by
    have ih := relabel_back (env := env) (x := x) (names := r) fun y hy => hc y (List.mem_cons_of_mem _ hy)
    have hk : k ≠ .cell := hc (n, k) List.mem_cons_self
    rw [List.map_cons] at h
    rw [List.lookup_cons]
    cases hx : x == n with
    | true =>
      dsimp only
      by_cases hq : (k == NameKind.free && env.scope.kind == .function && env.kindOf n == some .cell) = true
      · rw [Bool.and_eq_true, Bool.and_eq_true] at hq
        rw [beq_iff_eq.mp hq.1.1]
      · dsimp only at h
        rw [if_neg hq] at h
        rw [List.lookup_cons, hx] at h
        dsimp only at h
        rcases h with h | h
        · exact absurd (Option.some.inj h) hk
        · exact h
    | false =>
      dsimp only
      refine ih ?_
      dsimp only at h
      by_cases hq : (k == NameKind.free && env.scope.kind == .function && env.kindOf n == some .cell) = true
      · rw [if_pos hq, List.lookup_cons, hx] at h
        exact h
      · rw [if_neg hq, List.lookup_cons, hx] at h
        exact h
theorem mem_lookup {x : Str} {k : NameKind} {l : List (Str × NameKind)} (h : l.lookup x = some k) : (x, k) ∈ l := PySem.mem_of_lookup h

/-! ### the block's context -/
def comp (X : Cx) (Nc : List Str) (scope : Scope) (cl : List (Str × Addr)) (C : Addr) (s : Shared) (H : Hp) (fp : List Addr) : Cx :=
  { X with N := Nc, s₀ := s, H₀ := H, env := compEnvC scope cl C X.env, outer := X.stack, stack := X.stack, ex := fp, fn := fun _ => false, pn := [], xe := fun _ _ => False }

/-- where the block's names come from: none (its own), or a slot of the def -/
def MapOk (X : Cx) (scope : Scope) : List Str → List (Option Nat) → Prop
  | [], [] => True
  | _ :: N, none :: m => MapOk X scope N m
  | x :: N, some i :: m => (X.N[i]? = some x ∧ (X.env.scope.names.lookup x = some .cell ∨ X.env.scope.names.lookup x = some .free) ∧ scope.names.lookup x = some .free) ∧ MapOk X scope N m
  | _, _ => False
theorem MapOk.len {X : Cx} {scope : Scope} : ∀ {N : List Str} {m : List (Option Nat)}, MapOk X scope N m → m.length = N.length
  | [], [], _ => rfl
  | _ :: N, none :: m, h => congrArg (· + 1) (MapOk.len (N := N) (m := m) h)
  | _ :: N, some _ :: m, h => congrArg (· + 1) (MapOk.len (N := N) (m := m) h.2)
  | [], _ :: _, h => h.elim
  | _ :: _, [], h => h.elim
theorem MapOk.at {X : Cx} {scope : Scope} {x : Str} {i : Nat} : ∀ {N : List Str} {m : List (Option Nat)} {j : Nat}, MapOk X scope N m → m[j]? = some (some i) → N[j]? = some x →
    X.N[i]? = some x ∧ (X.env.scope.names.lookup x = some .cell ∨ X.env.scope.names.lookup x = some .free) ∧ scope.names.lookup x = some .free
  | [], [], j, _, h, _ => by simp at h
  | _ :: N, none :: m, 0, _, h, _ => by simp at h
  | _ :: N, none :: m, j + 1, k, h, e => MapOk.at (N := N) (m := m) (j := j) k (by simpa using h) (by simpa using e)
  | y :: N, some i' :: m, 0, k, h, e => by
    simp at h e
    subst h; subst e
    exact k.1
  | _ :: N, some _ :: m, j + 1, k, h, e => MapOk.at (N := N) (m := m) (j := j) k.2 (by simpa using h) (by simpa using e)
  | [], _ :: _, _, h, _, _ => h.elim
  | _ :: _, [], _, h, _, _ => h.elim
/-- the block's names at its entry -/
def mapS (m : List (Option Nat)) (σ : L2.St) : L2.St := m.map fun o => o.bind fun i => (σ[i]?).bind id

structure CompOk (X : Cx) (scope : Scope) (Nc : List Str) (mp : List (Option Nat)) : Prop where
  kind : scope.kind = .function
  noc : ∀ y ∈ scope.names, y.2 ≠ .cell
  loc : ∀ y ∈ scope.names, y.2 = .local → scope.names.lookup y.1 = some .local
  fre : ∀ y ∈ scope.names, y.2 = .free → X.env.kindOf y.1 = some .cell ∨ X.env.kindOf y.1 = some .free
  map : MapOk X scope Nc mp

section
variable {X : Cx} {pins : List (Addr × Obj)} {σ : L2.St} {H : Hp} {s : Shared} {scope : Scope} {Nc : List Str} {mp : List (Option Nat)} {cl : List (Str × Addr)} {C : Addr} {fp : List Addr}
theorem comp_ok (I : Inv X pins σ H s) (S : CompOk X scope Nc mp) (h1 : ∀ x c, cl.lookup x = some c → X.env.cells.lookup x = some c) (h2 : ∀ y ∈ scope.names, y.2 = .free → ∃ c, cl.lookup y.1 = some c)
    (hC : s.heap.objs.size ≤ C) (hf : ∀ b ∈ fp, FpOk X pins H b) (ho : ∀ b ∈ fp, b < s.heap.objs.size) : (comp X Nc scope cl C s H fp).Ok where
  mod := I.ok.mod
  kind := S.kind
  glob := I.ok.glob
  blt := I.ok.blt
  above := hC
  inj := fun x y c e e' => I.ok.inj x y c (h1 x c e) (h1 y c e')
  has := fun x hx => by
    have q : scope.names.lookup x = some .free := relabel_back (env := X.env) S.noc hx
    exact h2 (x, .free) (mem_lookup q) rfl
  cab := fun x c hx => absurd (show false = true from hx) Bool.false_ne_true
  hd := I.ok.hd
  frames := I.ok.frames
  stk := .inl rfl
  exf := fun b hb => ⟨fun z => absurd (Nat.lt_of_lt_of_le (ho b hb) hC) (by rw [z]; exact Nat.lt_irrefl _), fun x c e => (hf b hb).2.2.2.2.1 x c (h1 x c e)⟩
  bs := I.bs
  bsz := Nat.le_trans I.ok.bsz I.sz
  noex := fun b o e hb => by
    rcases (hf b hb).2.2.2.1 with z | z
    · exact I.ok.noex b o e z
    · exact absurd (Nat.lt_of_lt_of_le (Heap.lt_size e) (Nat.le_trans I.ok.bsz z)) (Nat.lt_irrefl _)
  exfs := fun b hb z => by
    rcases List.mem_cons.mp (I.stkSub b z) with e | e
    · exact (hf b hb).2.1 e
    · exact (hf b hb).2.2.1 e
  funs := I.stack
  frf := I.stkFree
theorem comp_inv {h' : Heap} {tk : Nat} {D : Addr} {oD : Obj} (I : Inv X pins σ H s) (S : CompOk X scope Nc mp) (h1 : ∀ x c, cl.lookup x = some c → X.env.cells.lookup x = some c) (h2 : ∀ y ∈ scope.names, y.2 = .free → ∃ c, cl.lookup y.1 = some c)
    (hC : s.heap.objs.size ≤ C) (hf : ∀ b ∈ fp, FpOk X pins H b) (ho : ∀ b ∈ fp, b < s.heap.objs.size) (kp : ∀ b o, s.heap.get? b = some o → h'.get? b = some o) {m : Str → Option Value} (hn : h'.Ns C m)
    (hD : s.heap.objs.size ≤ D) (hDC : D ≠ C) (eD : h'.get? D = some oD) (dD : ∀ v, oD.data ≠ .cell v) : Inv (comp X Nc scope cl C s H fp) [(D, oD)] (mapS mp σ) H { s with heap := h', toks := tk } where
  ok := comp_ok I S h1 h2 hC hf ho
  os := rfl
  bare := I.bare
  base := Un.kept kp
  loc := by
    refine ⟨m, hn, fun j x v e1 e2 _ => ?_⟩
    have hj : (mapS mp σ)[j]? = (mp[j]?).map fun o => o.bind fun i => (σ[i]?).bind id := by unfold mapS; rw [List.getElem?_map]
    rw [hj] at e2
    cases e3 : mp[j]? with
    | none => rw [e3] at e2; cases e2
    | some o =>
      rw [e3] at e2
      cases o with
      | none => cases e2
      | some i =>
        obtain ⟨k1, k2, k3⟩ := S.map.at e3 e1
        have e4 : (σ[i]?).bind id = some v := Option.some.inj e2
        have e5 : σ[i]? = some (some v) := by
          cases q : σ[i]? with
          | none => rw [q] at e4; cases e4
          | some z => rw [q] at e4; exact congrArg some e4
        obtain ⟨m0, _, hl⟩ := I.loc
        obtain ⟨u, r, l⟩ := hl i x v k1 e5 (.inr k2)
        refine ⟨u, r, .inr ⟨?_, ?_⟩⟩
        · show (relabel scope X.env).names.lookup x = some .cell ∨ (relabel scope X.env).names.lookup x = some .free
          have go : ∀ {names : List (Str × NameKind)}, names.lookup x = some .free →
              ((names.map fun (n, k) => if (k == NameKind.free && X.env.scope.kind == .function && X.env.kindOf n == some .cell) then (n, NameKind.cell) else (n, k)).lookup x = some .cell ∨
                (names.map fun (n, k) => if (k == NameKind.free && X.env.scope.kind == .function && X.env.kindOf n == some .cell) then (n, NameKind.cell) else (n, k)).lookup x = some .free) := by
            intro names
            induction names with
            | nil => intro q; rw [List.lookup_nil] at q; cases q
            | cons y r ih =>
              obtain ⟨n, k⟩ := y
              intro q
              rw [List.lookup_cons] at q
              rw [List.map_cons]
              dsimp only
              cases hx : x == n with
              | true =>
                rw [hx] at q
                cases q
                by_cases hq : (NameKind.free == NameKind.free && X.env.scope.kind == .function && X.env.kindOf n == some .cell) = true
                · rw [if_pos hq, List.lookup_cons, hx]; exact .inl rfl
                · rw [if_neg hq, List.lookup_cons, hx]; exact .inr rfl
              | false =>
                rw [hx] at q
                by_cases hq : (k == NameKind.free && X.env.scope.kind == .function && X.env.kindOf n == some .cell) = true
                · rw [if_pos hq, List.lookup_cons, hx]; exact ih q
                · rw [if_neg hq, List.lookup_cons, hx]; exact ih q
          exact go k3
        · obtain ⟨c, hc⟩ := h2 (x, .free) (mem_lookup k3) rfl
          refine ⟨c, hc, ?_⟩
          rcases l with ⟨lk, _⟩ | ⟨_, c', hc', oc, hoc, hd⟩
          · have lk' : X.env.scope.names.lookup x = some .local := lk
            rcases k2 with k2 | k2 <;> (rw [lk'] at k2; cases k2)
          · rw [h1 x c hc] at hc'; cases hc'
            exact ⟨oc, kp _ _ hoc, hd⟩
  cell := fun x c e => by
    obtain ⟨v, o, ho', hd⟩ := I.cell x c (h1 x c e)
    exact ⟨v, o, kp _ _ ho', hd⟩
  free := I.hok.fresh hC
  freeC := fun x c e => I.freeC x c (h1 x c e)
  pin := fun p hp => by
    have e : p = (D, oD) := by
      have hp' : p ∈ ([] : List (Addr × Obj)) ++ [(D, oD)] := hp
      simpa using hp'
    subst e
    refine ⟨eD, I.hok.fresh hD, hDC, fun z => ?_, dD⟩
    rcases List.mem_cons.mp (I.stkSub D z) with e | e
    · exact absurd (Nat.lt_of_lt_of_le I.lt hD) (by rw [e]; exact Nat.lt_irrefl _)
    · exact I.nofs hD e
  hok := I.hok.kept kp
  len := by unfold mapS; rw [List.length_map]; exact S.map.len
/-- behind the block: the list at D is tracked now, the block's names are let go -/
theorem comp_out {σ' : L2.St} {H' : Hp} {s' : Shared} {h' : Heap} {D : Addr} {acc : List V} {its : List Value} {n : Nat} (I : Inv X pins σ H s) (hC : s.heap.objs.size ≤ C) (hD : s.heap.objs.size ≤ D) (hDC : D ≠ C) (hf : ∀ b ∈ fp, FpOk X pins H b)
    (J : Inv (comp X Nc scope cl C s H fp) [(D, { cls := .type "list", data := .seq its.toArray n })] σ' H' s') (hs : Heap.SameBut C s'.heap h') (hv : Vals acc its) (hz : acc.length ≤ sizeLine) :
    Inv X pins σ (upd H' D (.lst acc)) { s' with heap := h' } ∧ H' D = none := by
  obtain ⟨eD, nD, _, _, _⟩ := J.pin (D, { cls := .type "list", data := .seq its.toArray n }) (List.mem_append_right _ List.mem_cons_self)
  have nD' : H' D = none := nD
  have u : Un (frs X.stack) fp H H' s.heap s'.heap := J.base
  have neC : ∀ b o, s.heap.get? b = some o → b ≠ C := fun b o e => Nat.ne_of_lt (Nat.lt_of_lt_of_le (Heap.lt_size e) hC)
  have neD : ∀ b o, s.heap.get? b = some o → b ≠ D := fun b o e => Nat.ne_of_lt (Nat.lt_of_lt_of_le (Heap.lt_size e) hD)
  refine ⟨?_, nD'⟩
  refine I.call' (ch := fp) (s' := { s' with heap := h' }) J.os ⟨fun b o e nb hb hx => ?_, fun b o e nb hb hx => ?_, fun b o e nb hx => ?_, fun b o e hx => ?_, fun b xs e => ?_, fun b o xs e => ?_, fun b ps e => ?_⟩ (fun b o e => ?_) J.bare fun b hb => ⟨(hf b hb).2.2.2.1, (hf b hb).2.1, (hf b hb).2.2.2.2.1, (hf b hb).2.2.2.2.2⟩
  · exact (hs.2 b (neC b o e)).trans (u.keep b o e nb hb hx)
  · obtain ⟨sl, q⟩ := u.slot b o e nb hb hx
    exact ⟨sl, (hs.2 b (neC b o e)).trans q⟩
  · rw [upd_ne (neD b o e)]; exact u.free b o e nb hx
  · obtain ⟨o', q⟩ := u.there b o e hx
    exact ⟨o', (hs.2 b (neC b o e)).trans q⟩
  · have q := u.tups b xs e
    rw [upd_ne (ne_of_none q nD')]; exact q
  · have q := u.frzs b o xs e
    rw [upd_ne (ne_of_none q nD')]; exact q
  · obtain ⟨more, q⟩ := u.tbls b ps e
    exact ⟨more, by rw [upd_ne (ne_of_none q nD')]; exact q⟩
  · have freeC' : H' C = none := J.free
    by_cases hb : b = D
    · subst hb
      rw [upd_same] at e; cases e
      exact ⟨hz, its, n, hv, (hs.2 _ hDC).trans eD⟩
    · rw [upd_ne hb] at e
      refine (J.hok b o e).stay (fun c v hc q => (hs.2 c ?_).trans q) (fun c q => by rw [upd_ne (ne_of_none q nD')]; exact q) fun c xs q => by rw [upd_ne (ne_of_none q nD')]; exact q
      rcases hc with z | z
      · rw [z]; exact ne_of_none e freeC'
      · exact ne_of_none z freeC'
end

/-! ### the rule -/
/-- W: the invariant by the turn, a measure, the block's names, the items so far -/
def wComp (J : It) (g : TG) (tt : TT) (te : TE) (Q : VK) (σ : L2.St) (H : Hp) : Prop :=
  ∃ W : Nat → Nat → L2.St → List V → Hp → Prop, (∃ m, W 0 m σ [] H) ∧ ∀ i m σ acc H, W i m σ acc H →
    (J.stop i H ∧ acc.length ≤ sizeLine ∧ ∀ D, H D = none → Q (.ref D) (upd H D (.lst acc))) ∨
    (J.go i H ∧ ∀ x H', J.yld i H x H' → g x σ H' fun σ2 H2 => tt σ2 H2 fun b H3 => if b = true then te σ2 H3 fun v H4 => acc.length < sizeLine ∧ ∃ m', m' < m ∧ W (i + 1) m' σ2 (acc ++ [v]) H4 else ∃ m', m' < m ∧ W (i + 1) m' σ2 acc H3)
def tComp (mp : List (Option Nat)) (wi : TI) (g : TG) (tt : TT) (te : TE) : TE := fun σ H Q => wi σ H fun J H1 => wComp J g tt te Q (mapS mp σ) H1

section
variable {X : Cx} {scope : Scope} {Nc : List Str} {mp : List (Option Nat)} {tg iter elt : Expr} {ifs : List Expr} {pos : Pos} {wi : TI} {g : TG} {tt : TT} {te : TE}

/-- the block: from the iterator on, to what is wanted behind the loop -/
theorem comp_block {pins : List (Addr × Obj)} {σ : L2.St} {H : Hp} {s2 : Shared} {it : Addr} {fp : List Addr} {tn : Nat → Heap → Prop} {J : It} {cl : List (Str × Addr)} {RR : Value → Addr → Result → Shared → Prop} {Q : VK}
    (hc : X.calm = true) (S : CompOk X scope Nc mp)
    (hb : ∀ cl C s H fp, PG (comp X Nc scope cl C s H fp) tg g ∧ PTs (comp X Nc scope cl C s H fp) ifs tt ∧ PE (comp X Nc scope cl C s H fp) elt te)
    (h1 : ∀ x c, cl.lookup x = some c → X.env.cells.lookup x = some c) (h2 : ∀ y ∈ scope.names, y.2 = .free → ∃ c, cl.lookup y.1 = some c)
    (I : Inv X pins σ H s2) (T : Turn X.prog X.w X.K tg J fp it tn) (st : tn 0 s2.heap) (hf : ∀ b ∈ fp, FpOk X pins H b) (hw : wComp J g tt te Q (mapS mp σ) H)
    (hR : ∀ D C s' H', s2.heap.objs.size ≤ C → s2.heap.objs.size ≤ D → D ≠ C → (∃ m, s'.heap.Ns C m) → (∀ h', Heap.SameBut C s'.heap h' → Inv X pins σ H' { s' with heap := h' }) → H' C = none → Q (.ref D) H' → RR (.ref D) C (.ok .next) s') :
    wpAny (model X.prog X.w) X.A (newList []) (fun acc s₃ => wpAny (model X.prog X.w) X.A (newFunctionEnv scope X.env.globals cl [] X.env.qual none .none (some X.env)) (fun cenv s₄ =>
      codeAny (model X.prog X.w) X.A (.compStart (.ListComp elt [⟨tg, iter, ifs, 0⟩] scope pos) 0 (.ref it) acc { cenv with scope := relabel scope X.env }) (RR acc cenv.locals) s₄) X.xe s₃) X.xe s2 := by
  obtain ⟨W, ⟨m0, w0⟩, turn⟩ := hw
  refine wpAny_newObj_type (wpAny_newFunctionEnv S.noc (by intro y hy; simp at hy) (fun h₁ hns₁ hsb₁ => ?_) S.kind)
  dsimp only at hns₁ hsb₁ ⊢
  generalize hH2 : s2.heap.push { cls := .type "list", dict := none, data := .seq ([] : List Value).toArray } = H2 at hns₁ hsb₁ ⊢
  have hC : H2.objs.size = s2.heap.objs.size + 1 := by rw [← hH2, Heap.size_push]
  have hDC : s2.heap.objs.size ≠ H2.objs.size := by rw [hC]; exact Nat.ne_of_lt (Nat.lt_succ_self _)
  have hCle : s2.heap.objs.size ≤ H2.objs.size := by rw [hC]; exact Nat.le_succ _
  have below : ∀ b, b < s2.heap.objs.size → b ≠ H2.objs.size := fun b hb => by rw [hC]; exact Nat.ne_of_lt (Nat.lt_succ_of_lt hb)
  have old : ∀ b o, s2.heap.get? b = some o → h₁.get? b = some o := fun b o e => hsb₁.extBut b o (below b (Heap.lt_size e)) (Heap.get?_push_of_some _ (hH2 ▸ Heap.get?_push_of_some _ e))
  have eD : h₁.get? s2.heap.objs.size = some { cls := .type "list", data := .seq ([] : List Value).toArray 0 } := hsb₁.extBut _ _ hDC (Heap.get?_push_of_some _ (hH2 ▸ Heap.get?_push_size _ rfl))
  have ho : ∀ b ∈ fp, b < s2.heap.objs.size := fun b hb => by
    obtain ⟨o, e, _⟩ := T.obj 0 _ st b hb
    exact Heap.lt_size e
  generalize hYd : comp X Nc scope cl H2.objs.size s2 H fp = Y
  have bodies := hb cl H2.objs.size s2 H fp
  rw [hYd] at bodies
  obtain ⟨hg, htt, hte⟩ := bodies
  have I0 : ∀ tk, Inv Y [(s2.heap.objs.size, { cls := .type "list", data := .seq ([] : List Value).toArray 0 })] (mapS mp σ) H { s2 with heap := h₁, toks := tk } := fun tk => by
    rw [← hYd]
    exact comp_inv I S h1 h2 hCle hf ho old hns₁ (Nat.le_refl _) hDC eD fun v z => by cases z
  have hYp : Y.prog = X.prog := by rw [← hYd]; rfl
  have hYw : Y.w = X.w := by rw [← hYd]; rfl
  have hYK : Y.K = X.K := by rw [← hYd]; rfl
  have hYA : Y.A = X.A := by rw [← hYd]; rfl
  have hYc : Y.calm = true := by rw [← hYd]; exact hc
  have hYx : Y.xe = fun _ _ => False := by rw [← hYd]; rfl
  have hYe : Y.env = compEnvC scope cl H2.objs.size X.env := by rw [← hYd]; rfl
  have hYs : Y.s₀ = s2 := by rw [← hYd]; rfl
  have hYex : Y.ex = fp := by rw [← hYd]; rfl
  have hYpn : Y.pn = [] := by rw [← hYd]; rfl
  have hYfs : Y.fs = frs X.stack := by rw [← hYd]; rfl
  -- the iterator's objects, in the block
  have fpY : ∀ {o : Obj} {H' : Hp}, (∀ b ∈ fp, H' b = none) → ∀ b ∈ fp, FpOk Y [(s2.heap.objs.size, o)] H' b := fun {o H'} hn b hb => by
    refine ⟨hn b hb, ?_, ?_, .inl (by rw [hYex]; exact hb), fun x c e => ?_, fun p hp => ?_⟩
    · rw [hYe]; exact below b (ho b hb)
    · rw [hYfs]
      intro z
      rcases List.mem_cons.mp (I.stkSub b z) with e | e
      · exact (hf b hb).2.1 e
      · exact (hf b hb).2.2.1 e
    · rw [hYe] at e
      exact (hf b hb).2.2.2.2.1 x c (h1 x c e)
    · rw [hYpn] at hp
      have e : p = (s2.heap.objs.size, o) := by simpa using hp
      subst e
      exact Nat.ne_of_gt (ho b hb)
  have loop : ∀ s₃ : Shared, s₃ = { s2 with heap := h₁, toks := s2.toks + ([] : List (Str × Value)).length } →
      codeAny (model X.prog X.w) X.A (.compLoop (.ListComp elt [⟨tg, iter, ifs, 0⟩] scope pos) 0 (.ref it) (.ref s2.heap.objs.size) (compEnvC scope cl H2.objs.size X.env))
        (RR (.ref s2.heap.objs.size) H2.objs.size) s₃ := by
    rintro s₃ rfl
    refine compLoop_any (fun n s' => ∃ i σ' H' acc its k, Inv Y [(s2.heap.objs.size, { cls := .type "list", data := .seq its.toArray k })] σ' H' s' ∧ tn i s'.heap ∧ (∀ b ∈ fp, H' b = none) ∧ Vals acc its ∧ acc.length ≤ sizeLine ∧ W i n σ' acc H') ?_ m0
      ⟨0, mapS mp σ, H, [], [], 0, I0 _, T.keep 0 _ _ st fun b _ o e => old b o e, fun b hb => (hf b hb).1, .nil, Nat.zero_le _, w0⟩
    rintro n s3 ⟨i, σ3, H3, acc, its, k, I3, st3, fr3, hv, hz, w3⟩
    rcases turn i n σ3 acc H3 w3 with ⟨stop, hzz, qn⟩ | ⟨go, step⟩
    · have hd := T.done Y hYp hYw hYK hYc i _ s3 σ3 H3 NE I3 (fpY fr3) st3 stop
      rw [hYA] at hd
      refine thn hd fun r s4 ⟨hr, I4⟩ => ?_
      subst hr
      have I4' := I4
      rw [← hYd] at I4'
      have nC : H3 H2.objs.size = none := by
        have z := I4.free
        rw [hYe] at z
        exact z
      obtain ⟨_, nD⟩ := comp_out I hCle (Nat.le_refl _) hDC hf I4' (Heap.SameBut.refl _ s4.heap) hv hzz
      refine hR _ _ s4 _ hCle (Nat.le_refl _) hDC ?_ (fun h' hs' => (comp_out I hCle (Nat.le_refl _) hDC hf I4' hs' hv hzz).1) ?_ (qn _ nD)
      · obtain ⟨m', hn', _⟩ := I4.loc
        rw [hYe] at hn'
        exact ⟨m', hn'⟩
      · rw [upd_ne (Ne.symm hDC)]; exact nC
    · have hi := T.item Y hYp hYw hYK hYc i _ s3 σ3 H3 NE I3 (fpY fr3) st3 go
      rw [hYA] at hi
      refine thn hi fun r s4 ⟨u, hr, h4⟩ => ?_
      subst hr
      refine thn h4 fun _ s5 ⟨x, H5, I5, r5, y5, st5, fr5⟩ => ?_
      have I5' := I5.pinned (fpY fr5) (T.obj _ _ st5)
      have ha := hg _ s5 σ3 H5 x u _ I5' r5 (step x H5 y5)
      rw [hYp, hYw, hYA, hYe, hYx] at ha
      refine thn ha fun _ s6 ⟨σ6, H6, I6, q6⟩ => ?_
      have ht := htt _ s6 σ6 H6 _ I6 q6
      rw [hYp, hYw, hYA, hYe, hYx] at ht
      refine thn ht fun ok s7 ⟨H7, I7, q7⟩ => ?_
      cases ok with
      | false =>
        have q7' : ∃ m', m' < n ∧ W (i + 1) m' σ6 acc H7 := q7
        obtain ⟨m', hm, w7⟩ := q7'
        rw [if_neg Bool.false_ne_true]
        refine ⟨m', hm, i + 1, σ6, H7, acc, its, k, I7.unpinned, T.keep _ _ _ st5 fun b hb o e => (I7.pin (b, o) (List.mem_append_right _ (List.mem_append_right _ (mem_pinsAt hb e)))).1, fun b hb => ?_, hv, hz, w7⟩
        obtain ⟨o, e, d⟩ := T.obj _ _ st5 b hb
        exact (I7.pin (b, o) (List.mem_append_right _ (List.mem_append_right _ (mem_pinsAt hb e)))).2.1
      | true =>
        rw [if_pos rfl]
        have he := hte _ s7 σ6 H7 _ I7 q7
        rw [hYp, hYw, hYA, hYe, hYx] at he
        refine thn he fun x4 s8 ⟨v, H8, I8, r8, hlt, m', hm, w8⟩ => ?_
        have st8 : tn (i + 1) s8.heap := T.keep _ _ _ st5 fun b hb o e => (I8.pin (b, o) (List.mem_append_right _ (List.mem_append_right _ (mem_pinsAt hb e)))).1
        have fr8 : ∀ b ∈ fp, H8 b = none := fun b hb => by
          obtain ⟨o, e, d⟩ := T.obj _ _ st5 b hb
          exact (I8.pin (b, o) (List.mem_append_right _ (List.mem_append_right _ (mem_pinsAt hb e)))).2.1
        have I8' := I8.unpinned
        obtain ⟨e8, n8, ne8, nf8, _⟩ := I8'.pin (s2.heap.objs.size, { cls := .type "list", data := .seq its.toArray k }) (List.mem_append_right _ List.mem_cons_self)
        refine wpAny_list_append_plain (items := its.toArray) ⟨k, e8⟩ (fun h9 hl9 hs9 => ?_) (by rw [List.size_toArray, ← hv.length]; exact hz)
        obtain ⟨k9, e9⟩ := hl9
        have ep : its.toArray.push x4 = (its ++ [x4]).toArray := by simp
        rw [ep] at e9
        -- the list has turned
        have I9 : Inv Y [] σ6 H8 { s8 with heap := h9 } := by
          refine (I8'.pins_of (pins' := []) fun p hp => nomatch hp).turned (t' := s8.toks) (it := s2.heap.objs.size) (fun b o hb e => (hs9.2 b hb).trans e) n8 ne8 (.inr (by rw [hYs]; exact Nat.le_refl _)) (fun x c e z => ?_) fun p hp => ?_
          · rw [hYe] at e
            obtain ⟨v', o', ho', _⟩ := I.cell x c (h1 x c e)
            exact absurd (Heap.lt_size ho') (by rw [z]; exact Nat.lt_irrefl _)
          · rw [hYpn] at hp
            exact absurd hp (by simp)
        refine ⟨m', hm, i + 1, σ6, H8, acc ++ [v], its ++ [x4], k9, I9.pins_of fun p hp => ?_, ?_, fr8, hv.append (.cons r8 .nil), ?_, w8⟩
        · have e : p = (s2.heap.objs.size, { cls := .type "list", data := .seq (its ++ [x4]).toArray k9 }) := by simpa using hp
          subst e
          exact ⟨e9, n8, ne8, nf8, fun v z => by cases z⟩
        · exact T.keep _ _ _ st8 fun b hb o e => (hs9.2 b (Nat.ne_of_lt (ho b hb))).trans e
        · rw [List.length_append, List.length_singleton]; omega
  have hself := T.self X.A 0 { s2 with heap := h₁, toks := s2.toks + ([] : List (Str × Value)).length } (fun it' s' => codeAny (model X.prog X.w) X.A (.compLoop (.ListComp elt [⟨tg, iter, ifs, 0⟩] scope pos) 0 it' (.ref s2.heap.objs.size) (compEnvC scope cl H2.objs.size X.env))
        (RR (.ref s2.heap.objs.size) H2.objs.size) s') (notedBy (model X.prog X.w) X.A (compEnvC scope cl H2.objs.size X.env) fun x s' => RR (.ref s2.heap.objs.size) H2.objs.size (.error x) s') (T.keep 0 _ _ st fun b _ o e => old b o e) (loop _ rfl)
  exact codeAny_compStart_list (loop _ rfl) hself

theorem clos_of (S : CompOk X scope Nc mp) {pins : List (Addr × Obj)} {σ : L2.St} {H : Hp} {s : Shared} (I : Inv X pins σ H s) : ∃ cl, closureFor scope X.env = pure cl ∧ (∀ x c, cl.lookup x = some c → X.env.cells.lookup x = some c) ∧ (∀ y ∈ scope.names, y.2 = .free → ∃ c, cl.lookup y.1 = some c) :=
  closure_ok fun y hy hf => I.ok.has y.1 (S.fre y hy hf)

/-- [elt for tg in iter if ..] -/
theorem pe_comp (hc : X.calm = true) (S : CompOk X scope Nc mp) (hi : PI X tg iter wi)
    (hb : ∀ cl C s H fp, PG (comp X Nc scope cl C s H fp) tg g ∧ PTs (comp X Nc scope cl C s H fp) ifs tt ∧ PE (comp X Nc scope cl C s H fp) elt te)
    (hs : ∀ x, foldedSetIterable iter X.env x = pure x := by intro _; rfl) : PE X (.ListComp elt [⟨tg, iter, ifs, 0⟩] scope pos) (tComp mp wi g tt te) := by
  intro pins s σ H Q I h
  obtain ⟨cl, hcl, h1, h2⟩ := clos_of S I
  rw [eval_ListComp]
  refine wpAny_comprehension_free (use := none) rfl hs hcl S.kind S.loc (thn (hi pins s σ H _ I h) fun v s1 hv => thn hv fun itv s2 hq => ?_)
  obtain ⟨it, fp, tn, J, H2, e, I2, T, st2, f2, hw⟩ := hq
  subst e
  refine comp_block (RR := fun acc C => compPost (model X.prog X.w) X.A X.xe none (EP X pins σ Q) acc C) (Q := Q) hc S hb h1 h2 I2 T st2 f2 hw fun D C s' H' hC hD hDC hm hI hn hq => ?_
  obtain ⟨m, hm⟩ := hm
  exact ⟨m, hm, fun h' hs' => ⟨.ref D, H', hI h' hs', rfl, hq⟩⟩

/-- x = [elt for tg in iter if ..] -/
theorem ps_setC {i : Nat} {x : Str} {pos' spos : Pos} (hc : X.calm = true) (hN : X.N.Nodup) (hiN : X.N[i]? = some x) (hx : X.env.scope.names.lookup x = some .local) (S : CompOk X scope Nc mp) (hi : PI X tg iter wi)
    (hb : ∀ cl C s H fp, PG (comp X Nc scope cl C s H fp) tg g ∧ PTs (comp X Nc scope cl C s H fp) ifs tt ∧ PE (comp X Nc scope cl C s H fp) elt te)
    (hsw : swapsWith (.ListComp elt [⟨tg, iter, ifs, 0⟩] scope pos) (some (.Name x pos')) spos.line X.env = pure true := by rfl)
    (hs : ∀ x, foldedSetIterable iter X.env x = pure x := by intro _; rfl) : PS X (.Assign [.Name x pos'] (.ListComp elt [⟨tg, iter, ifs, 0⟩] scope pos) spos) (tAsg (tComp mp wi g tt te) (gName i)) := by
  intro pins s σ H D I h
  obtain ⟨cl, hcl, h1, h2⟩ := clos_of S I
  rw [exec_Assign_Name_used _ _ _ _ hsw]
  refine wpAny_bind (wpAny_standAt (wpAny_bind ?_))
  show wpAny _ X.A (do let _ ← comprehension (.ListComp elt [⟨tg, iter, ifs, 0⟩] scope pos) scope X.env _ (newList []) false (eval iter X.env) (some (assign (.Name x pos') X.env))) _ _ s
  refine wpAny_bind (wpAny_mono (wpAny_comprehension_free (use := some (assign (.Name x pos') X.env)) (Q := fun _ s' => SP X pins D .next s') rfl hs hcl S.kind S.loc (thn (hi pins s σ H _ I h) fun v s1 hv => thn hv fun itv s2 hq => ?_)) (fun _ s' hq => wpAny_pure (wpAny_pure hq)) fun _ _ e => e)
  obtain ⟨it, fp, tn, J, H2, e, I2, T, st2, f2, hw⟩ := hq
  subst e
  refine comp_block (RR := fun acc C => compPost (model X.prog X.w) X.A X.xe (some (assign (.Name x pos') X.env)) (fun _ s' => SP X pins D .next s') acc C) (Q := fun v H1 => D.nx (σ.set i (some v)) H1) hc S hb h1 h2 I2 T st2 f2 hw fun A C s' H' hC hD hDC hm hI hn hq => ?_
  obtain ⟨m, hm⟩ := hm
  show wpAny _ X.A (assign (.Name x pos') X.env (.ref A)) _ _ s'
  have I0 : Inv X pins σ H' s' := hI s'.heap (Heap.SameBut.refl ..)
  have hLC : X.env.locals ≠ C := Nat.ne_of_lt (Nat.lt_of_lt_of_le I2.lt hC)
  have hcC : ∀ y c, X.env.cells.lookup y = some c → c ≠ C := fun y c e z => by
    obtain ⟨v, o, ho, _⟩ := I2.cell y c e
    exact absurd (Nat.lt_of_lt_of_le (Heap.lt_size ho) hC) (by rw [z]; exact Nat.lt_irrefl _)
  refine wpAny_assign_Name (store_ok2 I0 hN hiN (.inl hx) (show RelV (.ref A) (.ref A) from rfl) (fun s6 I6 hch => ?_) (.inr hx))
  obtain ⟨a, hs6, ha⟩ := hch
  have hCa : C ≠ a := by
    rcases ha with z | z
    · rw [z]; exact Ne.symm hLC
    · exact Ne.symm (hcC x a z)
  refine ⟨m, hm.sameBut hs6 hCa, fun h' hs' => ?_⟩
  have I7 : Inv X pins (σ.set i (some (.ref A))) H' { s6 with heap := h' } := I6.turned (t' := s6.toks) (it := C) (fun b o hb e => (hs'.2 b hb).trans e) hn (Ne.symm hLC) (.inr (Nat.le_trans I2.sz hC)) hcC fun p hp z => by
    exact absurd (Nat.lt_of_lt_of_le (Heap.lt_size (I2.pin p hp).1) hC) (by rw [z]; exact Nat.lt_irrefl _)
  exact ⟨_, H', I7, hq⟩
end
end L3

set_option Elab.async false
set_option linter.all false
set_option maxRecDepth 100000
set_option maxHeartbeats 4000000
/-! TEXTS, slices, all, isinstance, is .. over the layer. -/
namespace L3
open PySem PySem.Spec PyProof.Rows L2

/-! ### slices -/
theorem bounds_gen (lo hi : Option Int) (n : Nat) : sliceBounds lo hi none n = (((HT.sIx n 0 lo : Nat) : Int), ((HT.sIx n n hi : Nat) : Int), 1) := by
  have clip : ∀ (v : Int), max 0 (min (if v < 0 then v + (n : Int) else v) (n : Int)) = (((if v < 0 then (v + (n : Int)).toNat else min v.toNat n) : Nat) : Int) := fun v => by
    by_cases hv : v < 0
    · rw [if_pos hv, if_pos hv]; omega
    · rw [if_neg hv, if_neg hv]; omega
  unfold sliceBounds
  refine Prod.ext ?_ (Prod.ext ?_ rfl)
  · cases lo with
    | none => rfl
    | some v => exact clip v
  · cases hi with
    | none => rfl
    | some v => exact clip v
theorem slicePick_cut (its : List Value) (lo hi : Option Int) : slicePick its.toArray lo hi none = ((its.drop (HT.sIx its.length 0 lo)).take (HT.sIx its.length its.length hi - HT.sIx its.length 0 lo)).toArray := by
  unfold slicePick
  rw [bounds_gen, List.size_toArray]
  dsimp only
  rw [sliceRange_one, pick_run]
theorem strIx_gen (lo hi : Option Int) (n : Nat) : Builtin.Str.strSliceIndices lo hi 1 n = (List.range (HT.sIx n n hi - HT.sIx n 0 lo)).map (HT.sIx n 0 lo + ·) := by
  have clip : ∀ (v : Int), max 0 (min (if v < 0 then v + (n : Int) else v) (n : Int)) = (((if v < 0 then (v + (n : Int)).toNat else min v.toNat n) : Nat) : Int) := fun v => by
    by_cases hv : v < 0
    · rw [if_pos hv, if_pos hv]; omega
    · rw [if_neg hv, if_neg hv]; omega
  rw [← sliceRange_one]
  unfold Builtin.Str.strSliceIndices
  have e1 : (match lo with | none => (0 : Int) | some i => max 0 (min (if i < 0 then i + (n : Int) else i) (n : Int))) = ((HT.sIx n 0 lo : Nat) : Int) := by
    cases lo with
    | none => rfl
    | some v => exact clip v
  have e2 : (match hi with | none => (n : Int) | some i => max 0 (min (if i < 0 then i + (n : Int) else i) (n : Int))) = ((HT.sIx n n hi : Nat) : Int) := by
    cases hi with
    | none => rfl
    | some v => exact clip v
  rw [← e1, ← e2]
  cases lo <;> cases hi <;> rfl
/-- the signs of z[lo:hi] -/
def cutL (l : List Nat) (lo hi : Option Int) : List Nat := (l.drop (HT.sIx l.length 0 lo)).take (HT.sIx l.length l.length hi - HT.sIx l.length 0 lo)
theorem slice_cut (z : Str) (lo hi : Option Int) : Txt.slice z lo hi = ⟨(cutL z.cps.toList lo hi).toArray⟩ := by
  have hl : z.cps.toList.length = z.length := by simp [Str.length]
  have hb : HT.sIx z.length z.length hi ≤ z.length := HT.sIx_le _ _ (Nat.le_refl _) hi
  unfold Txt.slice cutL
  rw [strIx_gen, hl]
  by_cases h : ((1 : Int) == 1 && ((List.range (HT.sIx z.length z.length hi - HT.sIx z.length 0 lo)).map (HT.sIx z.length 0 lo + ·)).length == z.length) = true
  · rw [if_pos h]
    rw [Bool.and_eq_true, List.length_map, List.length_range] at h
    have h2 := eq_of_beq h.2
    have e : (z.cps.toList.drop (HT.sIx z.length 0 lo)).take (HT.sIx z.length z.length hi - HT.sIx z.length 0 lo) = z.cps.toList := by
      by_cases h0 : z.length = 0
      · have : z.cps.toList = [] := List.eq_nil_of_length_eq_zero (by rw [hl]; exact h0)
        rw [this]; simp
      · have ha : HT.sIx z.length 0 lo = 0 := by omega
        rw [ha, List.drop_zero]
        exact List.take_of_length_le (by rw [hl]; omega)
    rw [e]
  · rw [if_neg h, pick_run]
theorem str_mk (z : Str) : (⟨z.cps.toList.toArray⟩ : Str) = z := by cases z; simp

section
variable {X : Cx}
def rSlLs (K : PySem.W.Frag) : V → Option Int → Option Int → Hp → VK → Prop := fun x lo hi H Q => ∃ a xs, x = .ref a ∧ SqL K H a xs ∧ ∀ p, H p = none → Q (.ref p) (upd H p (.lst (cutV xs lo hi)))
theorem sl_lst : SlR X (rSlLs X.K) := by
  intro pins s σ H x v vl vu lo hi sl Q I rx hs pl pu h
  obtain ⟨a, xs, rfl, hx, q⟩ := h
  cases rx
  obtain ⟨its, r, hp, hz⟩ := I.list hx
  refine ⟨"list", _, list_getitem_lookup, hp.isList.typeIs, ?_⟩
  refine wpAny_getItem_list_slice hp.isList hs pl pu .none (by simp) ?_ (by rw [List.size_toArray, ← r.length]; exact hz)
  rw [slicePick_cut, ← r.length]
  exact ⟨.ref _, _, I.lnew (t' := s.toks) ((r.drop _).take _) (Nat.le_trans (cutV_length xs lo hi) hz), rfl, q _ I.fresh⟩
def rSlS : V → Option Int → Option Int → Hp → VK → Prop := fun x lo hi H Q => ∃ z, x = .str z ∧ z.length ≤ sizeLine ∧ Q (.str ⟨(cutL z.cps.toList lo hi).toArray⟩) H
theorem sl_str : SlR X rSlS := by
  intro pins s σ H x v vl vu lo hi sl Q I rx hs pl pu h
  obtain ⟨z, rfl, hz, q⟩ := h
  obtain ⟨t, rfl⟩ := rx
  refine ⟨"str", _, F.slot_str_getitem.lookup, typeIs_str _ _ _, ?_⟩
  have fin : ∀ t' k, EP X pins σ Q (.str (Txt.slice z lo hi) t') { s with toks := k } := fun t' k => by
    rw [slice_cut]
    exact ⟨.str _, H, I.tok _, ⟨_, rfl⟩, q⟩
  obtain ⟨os, hos, hcs, hds⟩ := id hs
  cases pl with
  | none =>
    cases pu with
    | none => exact wpAny_getItem_str_slice (l := none) (u := none) (st := none) ⟨os, hos, hcs, hds⟩ rfl (post_val_or_str ⟨Nat.le_trans (Txt.slice_le z _ _) hz, fin⟩)
    | int j uj => exact wpAny_getItem_str_slice (l := none) (u := some (j, uj)) (st := none) ⟨os, hos, hcs, hds⟩ rfl (post_val_or_str ⟨Nat.le_trans (Txt.slice_le z _ _) hz, fin⟩)
  | int i ui =>
    cases pu with
    | none => exact wpAny_getItem_str_slice (l := some (i, ui)) (u := none) (st := none) ⟨os, hos, hcs, hds⟩ rfl (post_val_or_str ⟨Nat.le_trans (Txt.slice_le z _ _) hz, fin⟩)
    | int j uj => exact wpAny_getItem_str_slice (l := some (i, ui)) (u := some (j, uj)) (st := none) ⟨os, hos, hcs, hds⟩ rfl (post_val_or_str ⟨Nat.le_trans (Txt.slice_le z _ _) hz, fin⟩)

/-! ### sep.join, text.index, all -/
theorem strsAre_of {ws : List Str} : ∀ {us : List Value}, Vals (ws.map V.str) us → StrsAre us ws := by
  induction ws with
  | nil => intro us r; rw [List.map_nil] at r; cases r; exact .nil
  | cons z ws ih =>
    intro us r
    rw [List.map_cons] at r
    cases r with
    | cons r1 r2 =>
      obtain ⟨t, e⟩ := r1
      subst e
      exact .cons z t (ih r2)
def rJoin (K : PySem.W.Frag) : V → List V → Hp → VK → Prop := fun x vs H Q => ∃ sep p ws, x = .str sep ∧ vs = [.ref p] ∧ (SqL K H p (ws.map V.str) ∨ SqT K H p (ws.map V.str)) ∧ (ws.map (·.length)).sum + ws.length * sep.length ≤ 16777216 ∧ Q (.str (Txt.join sep ws)) H
theorem mt_join : MtR X "str.join" (rJoin X.K) := by
  intro pins s σ H x xs v us Q I rx rv h
  obtain ⟨sep, p, ws, rfl, rfl, hq, hz, q⟩ := h
  obtain ⟨t, rfl⟩ := rx
  obtain ⟨u, rfl, ru⟩ := rv.one
  cases ru
  rcases hq with hq | hq
  · obtain ⟨its, r, hp, _⟩ := I.list hq
    exact join_list hp.isList (by simpa using strsAre_of r) hz fun t' k => ⟨.str _, H, I.tok _, ⟨_, rfl⟩, q⟩
  · obtain ⟨its, r, hp, _⟩ := I.tuple hq
    exact join_tuple hp (by simpa using strsAre_of r) hz fun t' k => ⟨.str _, H, I.tok _, ⟨_, rfl⟩, q⟩
def rIndex : V → List V → Hp → VK → Prop := fun x vs H Q => ∃ z y, x = .str z ∧ vs = [.str y] ∧ 0 ≤ Txt.find z y ∧ Q (.int (Txt.find z y)) H
theorem mt_index (hc : X.calm = true) : MtR X "str.index" rIndex := by
  intro pins s σ H x xs v us Q I rx rv h
  obtain ⟨z, y, rfl, rfl, h0, q⟩ := h
  obtain ⟨t, rfl⟩ := rx
  obtain ⟨u, rfl, ru⟩ := rv.one
  obtain ⟨t', rfl⟩ := ru
  refine index_or (I.ok.hd hc) (fun e _ => ?_) fun _ _ => ⟨.int _, H, I.tok _, ⟨_, rfl⟩, q⟩
  rw [e] at h0
  exact absurd h0 (by decide)
theorem all_range (bs : List Bool) : (List.range bs.length).all (fun i => bs.getD i false) = bs.all id := by
  rw [Bool.eq_iff_iff, List.all_eq_true, List.all_eq_true]
  constructor
  · intro h b hb
    obtain ⟨i, hi, e⟩ := List.mem_iff_getElem.mp hb
    have := h i (List.mem_range.mpr hi)
    rw [List.getD_eq_getElem?_getD, List.getElem?_eq_getElem hi] at this
    rw [← e]; exact this
  · intro h i hi
    have hi' := List.mem_range.mp hi
    rw [List.getD_eq_getElem?_getD, List.getElem?_eq_getElem hi']
    exact h _ (List.getElem_mem hi')
theorem call_all (hc : X.calm = true) : CallR X (.builtin "all") (fun xs H Q => ∃ (p : Addr) (bs : List Bool), xs = [.ref p] ∧ SqL X.K H p (bs.map V.bl) ∧ Q (.bl (bs.all id)) H) := by
  intro pins s σ H xs us Q I r h
  obtain ⟨p, bs, rfl, hq, q⟩ := h
  obtain ⟨u, rfl, ru⟩ := r.one
  cases ru
  obtain ⟨its, rv, hp, hz⟩ := I.list hq
  have hlt : p < s.heap.objs.size := by obtain ⟨_, e, _⟩ := hp.isList; exact Heap.lt_size e
  refine call_all_walk (wpAny_pyIter_list hp.isList ?_)
  refine ⟨s.heap.objs.size, [s.heap.objs.size, p], [s.heap.objs.size], its.toArray.size, _, _, fun i => bs.getD i false, rfl, Walks.list (A := X.A.in1) (I.ok.hd hc) _ _ (Nat.ne_of_lt hlt) its.toArray, ⟨⟨_, Heap.get?_push_size _ rfl, rfl, rfl⟩, hp.isList.push _⟩, ?_, ?_⟩
  · intro i v s' Q' E' hv hQ'
    have hv' : its[i]? = some v := by simpa using hv
    have hi : i < (bs.map V.bl).length := by
      rw [rv.length]; exact (List.getElem?_eq_some_iff.mp hv').1
    have hib : i < bs.length := by simpa using hi
    obtain ⟨u, hu, ru⟩ := rv.get (i := i) (x := V.bl bs[i]) (by rw [List.getElem?_map, List.getElem?_eq_getElem hib]; rfl)
    rw [hv'] at hu; cases hu
    cases ru
    have e : bs.getD i false = bs[i] := by rw [List.getD_eq_getElem?_getD, List.getElem?_eq_getElem hib]; rfl
    dsimp only at hQ'
    rw [e] at hQ'
    exact wpAny_truthy_bool hQ'
  · intro h' tk hk
    have el : its.toArray.size = bs.length := by rw [List.size_toArray, ← rv.length, List.length_map]
    rw [el, all_range]
    exact ⟨.bl _, H, I.kept fun b o e => hk b o (fun z => absurd (Heap.lt_size e) (by rw [List.mem_singleton.mp z]; exact Nat.lt_irrefl _)) (Heap.get?_push_of_some _ e), rfl, q⟩

/-! ### is, is not of bools; isinstance -/
theorem op_isnot_bl : OpR X (compareOp .IsNot) (fun x y H Q => ∃ c d, x = .bl c ∧ y = .bl d ∧ Q (.bl (c != d)) H) := by
  intro pins s σ H x y v u Q I rx ry h
  obtain ⟨c, d, rfl, rfl, q⟩ := h
  cases rx
  cases ry
  exact isnot_bool ⟨.bl _, H, I, rfl, q⟩
theorem call_isi : CallR X (.builtin "isinstance") (fun xs H Q => ∃ x n t b, xs = [x, .ty n] ∧ TyOf X.K H x t ∧ PySem.W.kitOne X.K t (.type n) = some b ∧ Q (.bl b) H) := by
  intro pins s σ H xs us Q I r h
  obtain ⟨x, n, t, b, rfl, ty, e, q⟩ := h
  obtain ⟨u, u2, rfl, r1, r2⟩ := r.two
  cases r2
  exact isinst_ok I r1 ty e fun tk => ⟨.bl b, H, I.tok _, rfl, q⟩

/-! ### a text, sign by sign -/
def Its (z : Str) : It := ⟨fun i _ => i < z.length, fun i H x H' => H' = H ∧ ∃ c, z.cps[i]? = some c ∧ x = .str ⟨#[c]⟩, fun i _ => z.length ≤ i⟩
theorem turn_str {P : Program} {w : World} {K : PySem.W.Frag} {tg : Expr} (z : Str) (t : Tok) (it : Addr) : Turn P w K tg (Its z) [it] it (fun i h => h.IsStrIter it (strIterType z) z t i) where
  mem := by simp
  obj := fun i h st b hb => by
    have e : b = it := by simpa using hb
    subst e
    obtain ⟨o, e, c, d⟩ := st
    exact ⟨o, e, fun v z => by rw [d] at z; cases z⟩
  keep := fun i h h' st k => by
    obtain ⟨o, e, r⟩ := st
    exact ⟨o, k it (by simp) o e, r⟩
  item := by
    intro X hP hw hK hc i pins s σ H E I hf st hg
    subst hP hw hK
    have hg' : i < z.cps.size := hg
    obtain ⟨f0, f1, f2, f3, f4, f5⟩ := hf it (by simp)
    have fin : ∀ h' tk, h'.IsStrIter it (strIterType z) z t (i + 1) → Heap.SameBut it s.heap h' → ∃ u, some (Value.str ⟨#[z.cps[i]]⟩ s.toks) = some u ∧
        wpAny (model X.prog X.w) X.A (letOwnedTupleGo tg (.ref it) u) (fun _ s2 => ∃ x H', Inv X pins σ H' s2 ∧ RelV x u ∧ (Its z).yld i H x H' ∧ s2.heap.IsStrIter it (strIterType z) z t (i + 1) ∧ ∀ b ∈ [it], H' b = none) E { s with heap := h', toks := tk } := fun h' tk st' sb => by
      have I1 : Inv X pins σ H { s with heap := h', toks := tk } := I.turned (fun b o hb e => (sb.2 b hb).trans e) f0 f1 f3 f4 f5
      obtain ⟨o, e, c, d⟩ := id st'
      refine ⟨_, rfl, go_of (s := { s with heap := h', toks := tk }) e c d ?_ ⟨.str ⟨#[z.cps[i]]⟩, H, I1, ⟨_, rfl⟩, ⟨rfl, _, by simp [hg'], rfl⟩, st', fun b hb => (hf b hb).1⟩⟩
      unfold strIterType
      split <;> decide
    cases ha : z.cps.all (· < 128) with
    | true =>
      have e : strIterType z = "str_ascii_iterator" := by simp [strIterType, ha]
      rw [e] at st fin ⊢
      exact wpAny_pyNext_ascii_item st (c := z.cps[i]) (by simp [hg']) fun h' st' sb => fin h' _ st' sb
    | false =>
      have e : strIterType z = "str_iterator" := by simp [strIterType, ha]
      rw [e] at st fin ⊢
      exact wpAny_pyNext_wide_item st (c := z.cps[i]) (by simp [hg']) fun h' st' sb => fin h' _ st' sb
  done := by
    intro X hP hw hK hc i pins s σ H E I hf st hg
    subst hP hw hK
    have hg' : z.cps.size ≤ i := hg
    obtain ⟨f0, f1, f2, f3, f4, f5⟩ := hf it (by simp)
    cases ha : z.cps.all (· < 128) with
    | true =>
      have e : strIterType z = "str_ascii_iterator" := by simp [strIterType, ha]
      rw [e] at st
      exact wpAny_pyNext_ascii_end (I.ok.hd hc) st (by simp [hg']) fun h' eb => ⟨rfl, I.turned (t' := s.toks) (fun b o hb e => eb b o hb e) f0 f1 f3 f4 f5⟩
    | false =>
      have e : strIterType z = "str_iterator" := by simp [strIterType, ha]
      rw [e] at st
      exact wpAny_pyNext_wide_end (I.ok.hd hc) st (by simp [hg']) fun h' eb => ⟨rfl, I.turned (t' := s.toks) (fun b o hb e => eb b o hb e) f0 f1 f3 f4 f5⟩
  self := fun _ _ _ _ _ st h => by
    cases ha : z.cps.all (· < 128) with
    | true =>
      have e : strIterType z = "str_ascii_iterator" := by simp [strIterType, ha]
      rw [e] at st
      exact wpAny_pyIter_striter_ascii st h
    | false =>
      have e : strIterType z = "str_iterator" := by simp [strIterType, ha]
      rw [e] at st
      exact wpAny_pyIter_striter_wide st h
def iStr (tl : TE) : TI := fun σ H R => tl σ H fun x H1 => ∃ z, x = .str z ∧ R (Its z) H1
theorem pi_str {tg l : Expr} {tl : TE} (hl : PE X l tl) : PI X tg l (iStr tl) := by
  intro pins s σ H R I h
  refine thn (hl pins s σ H _ I h) fun v s1 ⟨x, H1, I1, r1, q1⟩ => ?_
  obtain ⟨z, e, q⟩ := q1
  subst e
  obtain ⟨t, rfl⟩ := r1
  refine wpAny_pyIter_strU ?_
  refine ⟨s1.heap.objs.size, [s1.heap.objs.size], _, _, H1, rfl, I1.kept (t' := s1.toks) fun b o e => Heap.get?_push_of_some _ e, turn_str z t _, ⟨_, Heap.get?_push_size _ rfl, rfl, rfl⟩, fun b hb => ?_, q⟩
  have e : b = s1.heap.objs.size := by simpa using hb
  subst e
  exact I1.fpOk (Nat.le_refl _) (I1.hok.fresh (Nat.le_refl _))
end
end L3

set_option Elab.async false
set_option linter.all false
set_option maxRecDepth 100000
set_option maxHeartbeats 4000000
/-! COMPREHENSIONS that leave the heap as it is; small words. -/
namespace L3
open PySem PySem.Spec PyProof.Rows L2

/-! ### the block's names, by computing -/
def mapChk (sc : Scope) (N : List Str) (own : Scope) : List Str → List (Option Nat) → Bool
  | [], [] => true
  | _ :: r, none :: m => mapChk sc N own r m
  | x :: r, some i :: m => (N[i]? == some x && (sc.names.lookup x == some .cell || sc.names.lookup x == some .free) && own.names.lookup x == some .free) && mapChk sc N own r m
  | _, _ => false
def compChk (sc : Scope) (N : List Str) (own : Scope) (Nc : List Str) (mp : List (Option Nat)) : Bool :=
  (own.kind == .function) && (own.names.all fun y => y.2 != .cell) && (own.names.all fun y => y.2 != .local || own.names.lookup y.1 == some .local) &&
  (own.names.all fun y => y.2 != .free || (sc.names.lookup y.1 == some .cell || sc.names.lookup y.1 == some .free)) && mapChk sc N own Nc mp
theorem mapChk_ok {X : Cx} {own : Scope} : ∀ {Nc : List Str} {mp : List (Option Nat)}, mapChk X.env.scope X.N own Nc mp = true → MapOk X own Nc mp
  | [], [], _ => trivial
  | _ :: r, none :: m, h => mapChk_ok (Nc := r) (mp := m) h
  | x :: r, some i :: m, h => by
    unfold mapChk at h
    simp only [Bool.and_eq_true, Bool.or_eq_true, beq_iff_eq] at h
    exact ⟨⟨h.1.1.1, h.1.1.2, h.1.2⟩, mapChk_ok h.2⟩
  | [], _ :: _, h => absurd (show false = true from h) Bool.false_ne_true
  | _ :: _, [], h => absurd (show false = true from h) Bool.false_ne_true
theorem CompOk.of {X : Cx} {own : Scope} {Nc : List Str} {mp : List (Option Nat)} (h : compChk X.env.scope X.N own Nc mp = true) : CompOk X own Nc mp := by
  unfold compChk at h
  simp only [Bool.and_eq_true, List.all_eq_true, Bool.or_eq_true, beq_iff_eq, bne_iff_ne] at h
  obtain ⟨⟨⟨⟨h1, h2⟩, h3⟩, h4⟩, h5⟩ := h
  refine ⟨h1, h2, fun y hy e => ?_, fun y hy e => ?_, mapChk_ok h5⟩
  · rcases h3 y hy with z | z
    · exact absurd e z
    · exact z
  · rcases h4 y hy with z | z
    · exact absurd e z
    · exact z

/-! ### sources that do not change -/
structure Src (J : It) (H : Hp) (xs : List V) : Prop where
  go : ∀ i, i < xs.length → J.go i H
  yld : ∀ i x H', i < xs.length → J.yld i H x H' → H' = H ∧ xs[i]? = some x
  stop : ∀ i, xs.length ≤ i → J.stop i H
theorem src_str (z : Str) (H : Hp) : Src (Its z) H (z.cps.toList.map fun c => V.str ⟨#[c]⟩) where
  go := fun i h => by
    rw [List.length_map, Array.length_toList] at h
    exact h
  yld := fun i x H' _ h => by
    obtain ⟨e, c, hc, rfl⟩ := h
    exact ⟨e, by rw [List.getElem?_map, Array.getElem?_toList, hc]; rfl⟩
  stop := fun i h => by
    rw [List.length_map, Array.length_toList] at h
    exact h
theorem src_range (lo : Int) (n : Nat) (H : Hp) : Src (Itr lo n) H ((List.range n).map fun i => V.int (lo + (i : Nat))) where
  go := fun i h => by
    rw [List.length_map, List.length_range] at h
    exact h
  yld := fun i x H' hi h => by
    obtain ⟨e, rfl⟩ := h
    rw [List.length_map, List.length_range] at hi
    exact ⟨e, by rw [List.getElem?_map, List.getElem?_range hi]; rfl⟩
  stop := fun i h => by
    rw [List.length_map, List.length_range] at h
    exact h
theorem src_list {K : PySem.W.Frag} {H : Hp} {a : Addr} {xs : List V} (h : SqL K H a xs) : Src (Itl K a) H xs where
  go := fun i hi => ⟨xs, xs[i], h, by simp [hi]⟩
  yld := fun i x H' _ q => ⟨q.1, q.2 xs h⟩
  stop := fun i hi => ⟨xs, h, hi⟩
theorem src_tup {K : PySem.W.Frag} {H : Hp} {a : Addr} {xs : List V} (h : SqT K H a xs) : Src (Itt K a) H xs where
  go := fun i hi => ⟨xs, xs[i], h, by simp [hi]⟩
  yld := fun i x H' _ q => ⟨q.1, q.2 xs h⟩
  stop := fun i hi => ⟨xs, h, hi⟩

/-- a comprehension whose tests and items leave the heap as it is -/
theorem comp_pure {α : Type} {J : It} {H : Hp} {as : List α} {v : α → V} (f : α → Bool) (e : α → V) {tt : TT} {te : TE} {Q : VK} {rest : L2.St} (S : Src J H (as.map v)) (hz : as.length ≤ sizeLine)
    (ht : ∀ a ∈ as, ∀ k : Bool → Hp → Prop, k (f a) H → tt (some (v a) :: rest) H k) (he : ∀ a ∈ as, f a = true → ∀ k : VK, k (e a) H → te (some (v a) :: rest) H k)
    (hq : ∀ D, H D = none → Q (.ref D) (upd H D (.lst ((as.filter f).map e)))) : wComp J (gName 0) tt te Q (none :: rest) H := by
  refine ⟨fun i m σ acc H' => H' = H ∧ i ≤ as.length ∧ m = as.length - i ∧ acc = ((as.take i).filter f).map e ∧ ∃ o, σ = o :: rest, ⟨as.length, rfl, Nat.zero_le _, rfl, by simp, none, rfl⟩, ?_⟩
  rintro i m σ acc H' ⟨rfl, hi, rfl, rfl, o, rfl⟩
  have hacc : (((as.take i).filter f).map e).length ≤ i := by
    rw [List.length_map]
    exact Nat.le_trans (List.length_filter_le _ _) (by rw [List.length_take]; exact Nat.min_le_left _ _)
  by_cases hlt : i < as.length
  · refine .inr ⟨S.go i (by rw [List.length_map]; exact hlt), fun x H1 y => ?_⟩
    obtain ⟨rfl, hx⟩ := S.yld i x H1 (by rw [List.length_map]; exact hlt) y
    rw [List.getElem?_map, List.getElem?_eq_getElem hlt] at hx
    have hx' : v as[i] = x := Option.some.inj hx
    subst hx'
    have hm : as[i] ∈ as := List.getElem_mem hlt
    have ts : as.take (i + 1) = as.take i ++ [as[i]] := List.take_succ_eq_append_getElem hlt
    show tt (some (v as[i]) :: rest) H1 _
    refine ht _ hm _ ?_
    cases hf : f as[i] with
    | true =>
      rw [if_pos rfl]
      refine he _ hm hf _ ⟨by omega, as.length - (i + 1), by omega, rfl, hlt, rfl, ?_, _, rfl⟩
      rw [ts, List.filter_append, List.map_append, List.filter_cons_of_pos hf]
      rfl
    | false =>
      rw [if_neg Bool.false_ne_true]
      refine ⟨as.length - (i + 1), by omega, rfl, hlt, rfl, ?_, _, rfl⟩
      rw [ts, List.filter_append, List.filter_cons_of_neg (by rw [hf]; exact Bool.false_ne_true)]
      simp
  · have ei : i = as.length := by omega
    subst ei
    refine .inl ⟨S.stop _ (by rw [List.length_map]; exact Nat.le_refl _), by omega, fun D hD => ?_⟩
    rw [List.take_length]
    exact hq D hD
theorem comp_map {α : Type} {J : It} {H : Hp} {as : List α} {v : α → V} (e : α → V) {te : TE} {Q : VK} {rest : L2.St} (S : Src J H (as.map v)) (hz : as.length ≤ sizeLine)
    (he : ∀ a ∈ as, ∀ k : VK, k (e a) H → te (some (v a) :: rest) H k)
    (hq : ∀ D, H D = none → Q (.ref D) (upd H D (.lst (as.map e)))) : wComp J (gName 0) tYes te Q (none :: rest) H :=
  comp_pure (fun _ => true) e S hz (fun a _ k hk => hk) (fun a ha _ k hk => he a ha k hk) fun D hD => by
    have e1 : as.filter (fun _ => true) = as := by simp
    rw [e1]; exact hq D hD

/-! ### a cut between two statements: what holds there -/
section
variable {X : Cx} {st : Stmt} {t : TS}
def tMid (t : TS) : TS := fun D σ H => ∃ M : L2.St → Hp → Prop, t { D with nx := M } σ H ∧ ∀ σ' H', M σ' H' → D.nx σ' H'
theorem ps_mid (h : PS X st t) : PS X st (tMid t) := by
  intro pins s σ H D I hw
  obtain ⟨M, h1, h2⟩ := hw
  refine thn (h pins s σ H { D with nx := M } I h1) fun f s' q => ?_
  cases f with
  | next =>
    obtain ⟨σ', H', I', m⟩ := q
    exact ⟨σ', H', I', h2 _ _ m⟩
  | ret v => exact q
  | brk => exact q
  | cont => exact q
end

/-! ### lengths -/
theorem szl : (sizeLine : Nat) = 16777216 := sizeLine_eq
theorem few {n : Nat} (h : n ≤ 100000) : n ≤ sizeLine := by rw [szl]; omega
theorem fewer {n : Nat} (h : n ≤ 100000) : n < sizeLine := by rw [szl]; omega
end L3

set_option Elab.async false
set_option linter.all false
set_option maxRecDepth 100000
set_option maxHeartbeats 4000000
/-! THE MATHEMATICS of words. -/
namespace Vm
open PySem L2 L3
/-- a letter a to z -/
def Al (c : Nat) : Prop := 97 ≤ c ∧ c ≤ 122
structure Good (z : Str) : Prop where
  lo : 1 ≤ z.length
  hi : z.length ≤ 12
  al : ∀ c ∈ z.cps.toList, Al c
def letters : Str := "abcdefghijklmnopqrstuvwxyz"
theorem letters_cps : letters.cps.toList = (List.range 26).map (97 + ·) := by decide +kernel
theorem letters_len : letters.length = 26 := by decide +kernel
theorem mem_letters {c : Nat} : c ∈ letters.cps.toList ↔ Al c := by
  rw [letters_cps, List.mem_map]
  unfold Al
  constructor
  · rintro ⟨i, hi, rfl⟩
    have := List.mem_range.mp hi
    omega
  · intro h
    exact ⟨c - 97, List.mem_range.mpr (by omega), by omega⟩
theorem clen (z : Str) : z.cps.toList.length = z.length := by simp [Str.length]
theorem Good.small {z : Str} (g : Good z) : z.length ≤ sizeLine := few (by have := g.hi; omega)
def onlyB (z y : Str) : Bool := z.cps.toList.all fun c => decide (c ∈ y.cps.toList)
def wordB (z : Str) : Bool := decide (1 ≤ z.length ∧ z.length ≤ 12) && onlyB z letters
theorem wordB_iff {z : Str} : wordB z = true ↔ Good z := by
  unfold wordB onlyB
  rw [Bool.and_eq_true, decide_eq_true_eq, List.all_eq_true]
  constructor
  · rintro ⟨⟨h1, h2⟩, h3⟩
    exact ⟨h1, h2, fun c hc => mem_letters.mp (of_decide_eq_true (h3 c hc))⟩
  · rintro ⟨h1, h2, h3⟩
    exact ⟨⟨h1, h2⟩, fun c hc => decide_eq_true (mem_letters.mpr (h3 c hc))⟩
/-- the places at which two texts differ -/
def placesB (a b : List Nat) : List Nat := (List.range a.length).filter fun i => !decide (a[i]? = b[i]?)
def alikeB (a b : List Nat) : Bool := if a.length = b.length then decide ((placesB a b).length = 1) else false
theorem placesB_comm {a b : List Nat} (h : a.length = b.length) : placesB a b = placesB b a := by
  unfold placesB
  rw [h]
  congr 1
  funext i
  congr 1
  exact decide_eq_decide.mpr ⟨fun e => e.symm, fun e => e.symm⟩
theorem alikeB_comm (a b : List Nat) : alikeB a b = alikeB b a := by
  unfold alikeB
  by_cases h : a.length = b.length
  · rw [if_pos h, if_pos h.symm, placesB_comm h]
  · rw [if_neg h, if_neg fun e => h e.symm]
/-! ### cuts of texts -/
theorem mk_list (l : List Nat) : (⟨l.toArray⟩ : Str).cps.toList = l := by simp
theorem mk_len (l : List Nat) : (⟨l.toArray⟩ : Str).length = l.length := by
  show l.toArray.size = _
  rw [List.size_toArray]
theorem take_min {α : Type} (l : List α) (n : Nat) : l.take (min n l.length) = l.take n := by
  by_cases h : n ≤ l.length
  · rw [Nat.min_eq_left h]
  · rw [Nat.min_eq_right (by omega), List.take_of_length_le (Nat.le_refl l.length), List.take_of_length_le (l := l) (i := n) (by omega)]
theorem drop_min {α : Type} (l : List α) (n : Nat) : l.drop (min n l.length) = l.drop n := by
  by_cases h : n ≤ l.length
  · rw [Nat.min_eq_left h]
  · rw [Nat.min_eq_right (by omega), List.drop_of_length_le (Nat.le_refl l.length), List.drop_of_length_le (l := l) (i := n) (by omega)]
theorem cutL_take (l : List Nat) (n : Nat) : cutL l none (some (n : Int)) = l.take n := by
  unfold cutL
  rw [HT.sIx_none, HT.sIx_nat, List.drop_zero, Nat.sub_zero, take_min]
theorem cutL_drop (l : List Nat) (n : Nat) : cutL l (some (n : Int)) none = l.drop n := by
  unfold cutL
  rw [HT.sIx_none, HT.sIx_nat, drop_min]
  exact List.take_of_length_le (by rw [List.length_drop]; omega)
theorem cutL_len (l : List Nat) (lo hi : Option Int) : (cutL l lo hi).length ≤ l.length := by
  unfold cutL
  rw [List.length_take, List.length_drop]
  omega
/-! ### words that are made -/
theorem good_mk {l : List Nat} (h1 : 1 ≤ l.length) (h2 : l.length ≤ 12) (h : ∀ c ∈ l, Al c) : Good ⟨l.toArray⟩ := ⟨by show 1 ≤ l.toArray.size; rw [List.size_toArray]; exact h1, by show l.toArray.size ≤ 12; rw [List.size_toArray]; exact h2, fun c hc => h c (by simpa using hc)⟩
theorem al_mod (n : Nat) (h : n < 26) : Al (97 + n) := by unfold Al; omega
theorem app_list (a b : Str) : (a ++ b).cps.toList = a.cps.toList ++ b.cps.toList := by
  show (a.cps ++ b.cps).toList = _
  simp
theorem app_len (a b : Str) : (a ++ b).length = a.length + b.length := by
  show (a.cps ++ b.cps).size = _
  rw [Array.size_append]; rfl
end Vm

set_option Elab.async false
set_option linter.all false
set_option maxRecDepth 100000
set_option maxHeartbeats 4000000
/-! text.split(sep); a text as words with a sign between. -/
namespace L3
open PySem PySem.Spec PyProof.Rows L2
open Builtin Builtin.Str
section
variable {X : Cx}
theorem vals_values : ∀ l : List (Str × Tok), Vals ((l.map (·.1)).map V.str) (strValues l)
  | [] => .nil
  | (z, t) :: r => .cons ⟨t, rfl⟩ (vals_values r)
def rSplit : V → List V → Hp → VK → Prop := fun x vs H Q => ∃ z y, x = .str z ∧ vs = [.str y] ∧ 1 ≤ y.length ∧ z.length ≤ 1000000 ∧ ∀ p, H p = none → Q (.ref p) (upd H p (.lst ((Txt.split z y).map V.str)))
theorem mt_split : MtR X "str.split" rSplit := by
  intro pins s σ H x xs v us Q I rx rv h
  obtain ⟨z, y, rfl, rfl, hy, hz, q⟩ := h
  obtain ⟨t, rfl⟩ := rx
  obtain ⟨u, rfl, ru⟩ := rv.one
  obtain ⟨t', rfl⟩ := ru
  have hs := szl
  have hy' : (y.length == 0) = false := by
    rw [beq_eq_false_iff_ne]; omega
  have hlen := PyProof.Rows.split_le z y
  have fin : ∀ (l : List (Str × Tok)) (k : Nat), l.map (·.1) = Txt.split z y → EP X pins σ Q (.ref s.heap.objs.size) { s with heap := s.heap.push { cls := .type "list", data := .seq (strValues l).toArray }, toks := k } := fun l k e => by
    have hv : Vals ((Txt.split z y).map V.str) (strValues l) := by rw [← e]; exact vals_values l
    exact ⟨.ref _, _, I.lnew (t' := k) hv (by rw [List.length_map]; omega), rfl, q _ I.fresh⟩
  have hn : (partsBetween z (occurrences z y 0 z.length (z.length + 1)) y.length).length ≤ sizeLine := by
    have h1 := StrLaws.occ_length_le z y 0 z.length (z.length + 1)
    unfold partsBetween
    simp only [List.length_map, List.length_zip, List.length_cons, List.length_append, List.length_singleton]
    omega
  cases h1 : (decide (z.length < y.length) || decide (strKind z < strKind y))
  · cases hf : (occurrences z y 0 z.length (z.length + 1)).isEmpty
    · refine call_meets F.slot_str_split (typeIs_str _ _ _) F.entry_str_split (F.args_str_split_2 _ _) (meets_str_split_sep z y t t' h1 hy' hf (by omega) hn) ?_
      show EP X pins σ Q (.ref s.heap.objs.size) { s with toks := _, heap := s.heap.push { cls := .type "list", data := .seq (strsFrom s.toks (partsBetween z (occurrences z y 0 z.length (z.length + 1)) y.length)).toArray } }
      rw [strsFrom_eq]
      exact fin (numbered s.toks _) _ ((numbered_texts _ _).trans ((if_neg (ne_true_of_eq_false h1)).trans (if_neg (ne_true_of_eq_false hf))).symm)
    · refine call_meets F.slot_str_split (typeIs_str _ _ _) F.entry_str_split (F.args_str_split_2 _ _) (meets_str_split_not_found z y t t' h1 hy' hf) ?_
      exact fin [(z, t)] s.toks ((if_neg (ne_true_of_eq_false h1)).trans (if_pos hf)).symm
  · refine call_meets F.slot_str_split (typeIs_str _ _ _) F.entry_str_split (F.args_str_split_2 _ _) (meets_str_split_cannot_occur z y t t' h1) ?_
    exact fin [(z, t)] s.toks (if_pos h1).symm
end
end L3

namespace Vm
open PySem L2 L3
/-! ### words with a sign c between, as lists -/
def joinL (c : Nat) : List (List Nat) → List Nat
  | [] => []
  | [l] => l
  | l :: m :: r => l ++ c :: joinL c (m :: r)
def splitL (c : Nat) : List Nat → List (List Nat)
  | [] => [[]]
  | x :: r => if x = c then [] :: splitL c r else match splitL c r with | [] => [[x]] | h :: t => (x :: h) :: t
theorem splitL_ne (c : Nat) : ∀ l, splitL c l ≠ []
  | [] => fun h => nomatch h
  | x :: r => by
    unfold splitL
    by_cases h : x = c
    · rw [if_pos h]; exact fun h => nomatch h
    · rw [if_neg h]
      cases splitL c r with
      | nil => exact fun h => nomatch h
      | cons a b => exact fun h => nomatch h
theorem splitL_app {c : Nat} : ∀ {l : List Nat} (r : List Nat), c ∉ l → splitL c (l ++ c :: r) = l :: splitL c r
  | [], r, _ => by
    show splitL c (c :: r) = _
    unfold splitL
    rw [if_pos rfl]
    cases r <;> rfl
  | x :: l, r, h => by
    have hx : x ≠ c := fun e => h (by rw [e]; exact List.mem_cons_self)
    show splitL c (x :: (l ++ c :: r)) = _
    conv => lhs; unfold splitL
    rw [if_neg hx, splitL_app r fun m => h (List.mem_cons_of_mem _ m)]
theorem splitL_free {c : Nat} : ∀ {l : List Nat}, c ∉ l → splitL c l = [l]
  | [], _ => rfl
  | x :: l, h => by
    have hx : x ≠ c := fun e => h (by rw [e]; exact List.mem_cons_self)
    conv => lhs; unfold splitL
    rw [if_neg hx, splitL_free fun m => h (List.mem_cons_of_mem _ m)]
theorem split_join {c : Nat} : ∀ {ls : List (List Nat)}, ls ≠ [] → (∀ l ∈ ls, c ∉ l) → splitL c (joinL c ls) = ls
  | [], h, _ => absurd rfl h
  | [l], _, h => splitL_free (h l List.mem_cons_self)
  | l :: m :: r, _, h => by
    show splitL c (l ++ c :: joinL c (m :: r)) = _
    rw [splitL_app _ (h l List.mem_cons_self), split_join (ls := m :: r) (fun e => nomatch e) fun x hx => h x (List.mem_cons_of_mem _ hx)]
theorem glue_list (c : Nat) : ∀ ws : List Str, (Txt.join ⟨#[c]⟩ ws).cps.toList = joinL c (ws.map fun z => z.cps.toList)
  | [] => rfl
  | [z] => by
    show (Builtin.Str.glued ⟨#[c]⟩ [z]).cps.toList = _
    unfold Builtin.Str.glued
    simp [joinL]
  | z :: y :: r => by
    have go : ∀ (l : List Str) (acc : Array Nat), (l.foldl (fun acc p => acc ++ (⟨#[c]⟩ : Str).cps ++ p.cps) acc).toList = acc.toList ++ (l.map fun z => c :: z.cps.toList).flatten := by
      intro l
      induction l with
      | nil => intro acc; simp
      | cons a b ih => intro acc; rw [List.foldl_cons, ih]; simp
    have go2 : ∀ (l : List Str) (y : Str), y.cps.toList ++ (l.map fun z => c :: z.cps.toList).flatten = joinL c ((y :: l).map fun z => z.cps.toList) := by
      intro l
      induction l with
      | nil => intro y; simp [joinL]
      | cons a b ih =>
        intro y
        rw [List.map_cons, List.flatten_cons, List.map_cons, List.map_cons]
        show _ = y.cps.toList ++ c :: joinL c (a.cps.toList :: b.map fun z => z.cps.toList)
        have e := ih a
        rw [List.map_cons] at e
        rw [← e]
        simp
    show (Builtin.Str.glued ⟨#[c]⟩ (z :: y :: r)).cps.toList = _
    unfold Builtin.Str.glued
    rw [List.drop_one, List.tail_cons]
    rw [go, ← go2 (y :: r) z]
    rfl
theorem sjoin_list (c : Nat) (ws : List Str) : (Str.join ⟨#[c]⟩ ws).cps.toList = joinL c (ws.map fun z => z.cps.toList) := by
  have e := PyProof.Rows.join_plain_closes ⟨#[c]⟩ ws
  rw [← eq_of_beq e]
  exact glue_list c ws
theorem split_eq (z : Str) (c : Nat) : Txt.split z ⟨#[c]⟩ = (splitL c z.cps.toList).map fun l => (⟨l.toArray⟩ : Str) := by
  have h1 := StrLaws.join_split z ⟨#[c]⟩
  have h2 := StrLaws.split_free z c
  have h3 : Txt.split z ⟨#[c]⟩ ≠ [] := fun e => by
    have := PyProof.Rows.split_pos z ⟨#[c]⟩
    rw [e] at this
    exact absurd this (by decide)
  have h4 : z.cps.toList = joinL c ((Txt.split z ⟨#[c]⟩).map fun z => z.cps.toList) := by
    conv => lhs; rw [← h1]
    exact sjoin_list c _
  rw [h4, split_join (fun e => h3 (List.map_eq_nil_iff.mp e)) fun l hl => ?_, List.map_map]
  · have : ((fun l => (⟨List.toArray l⟩ : Str)) ∘ fun z : Str => z.cps.toList) = id := by funext z; exact str_mk z
    rw [this, List.map_id]
  · obtain ⟨p, hp, rfl⟩ := List.mem_map.mp hl
    exact h2 p hp
end Vm

set_option Elab.async false
set_option linter.all false
set_option maxRecDepth 100000
set_option maxHeartbeats 4000000
/-! AN EXCEPTION IN FLIGHT: what the frames that it passes do to the heap. -/
namespace L3
open PySem PySem.Spec PyProof.Rows L2

abbrev fra (l : List Env) : List Addr := L2.frs l
/-- the exception at e, of the class at C, its newest entry at T, which says fl -/
structure Exc (h : Heap) (e T C : Addr) (fl : Value) : Prop where
  ob : ∃ vs, h.get? e = some { cls := .ref C, data := .fields vs } ∧ vs[1]? = some (.ref T)
  tb : ∃ oT ts, h.get? T = some oT ∧ oT.data = .fields ts ∧ ts[3]? = some fl
  ne : T ≠ e
/-- all but the objects in S is kept, of the frames at fs up to their slots -/
structure Kpt (S fs : List Addr) (h h' : Heap) : Prop where
  keep : ∀ b o, h.get? b = some o → b ∉ S → b ∉ fs → h'.get? b = some o
  slot : ∀ b o, h.get? b = some o → b ∉ S → b ∈ fs → ∃ sl, h'.get? b = some { o with slots := sl }
theorem Kpt.refl {S fs : List Addr} {h : Heap} : Kpt S fs h h := ⟨fun _ _ e _ _ => e, fun _ o e _ _ => ⟨o.slots, e⟩⟩
theorem Kpt.trans {S fs : List Addr} {h h1 h2 : Heap} (a : Kpt S fs h h1) (b : Kpt S fs h1 h2) : Kpt S fs h h2 :=
  ⟨fun c o e n m => b.keep c o (a.keep c o e n m) n m, fun c o e n m => by
    obtain ⟨sl, e1⟩ := a.slot c o e n m
    obtain ⟨sl2, e2⟩ := b.slot c _ e1 n m
    exact ⟨sl2, e2⟩⟩
theorem Kpt.mono {S S' fs : List Addr} {h h' : Heap} (a : Kpt S fs h h') (k : ∀ b ∈ S, b ∈ S') : Kpt S' fs h h' :=
  ⟨fun c o e n m => a.keep c o e (fun z => n (k c z)) m, fun c o e n m => a.slot c o e (fun z => n (k c z)) m⟩
theorem Kpt.any {S fs : List Addr} {h h' : Heap} (a : Kpt S fs h h') {b : Addr} {o : Obj} (e : h.get? b = some o) (n : b ∉ S) : ∃ sl, h'.get? b = some { o with slots := sl } := by
  by_cases m : b ∈ fs
  · exact a.slot b o e n m
  · exact ⟨o.slots, a.keep b o e n m⟩
theorem Kpt.funs {S fs : List Addr} {h h' base : Heap} {l : List Env} (a : Kpt S fs h h') (hl : h.FunFrames base l) (hn : ∀ b ∈ S, b ∉ fra l) : h'.FunFrames base l := by
  have go : ∀ (l' : List Env), (∀ b ∈ fra l', b ∈ fra l) → h.FunFrames base l' → h'.FunFrames base l' := by
    intro l'
    induction l' with
    | nil => intro _ _; trivial
    | cons env r ih =>
      intro hs hl'
      obtain ⟨hk, ⟨L, o, hf, h0, ho, hd⟩, hr⟩ := hl'
      have hL : L ∈ fra (env :: r) := by unfold fra frs; rw [List.filterMap_cons, hf]; exact List.mem_cons_self
      obtain ⟨sl, e⟩ := a.any ho fun z => hn L z (hs L hL)
      exact ⟨hk, ⟨L, _, hf, h0, e, hd⟩, ih (fun b hb => hs b (by unfold fra frs; rw [List.filterMap_cons, hf]; exact List.mem_cons_of_mem _ hb)) hr⟩
  exact go l (fun _ z => z) hl

section
variable {M : Model} {A : Around} {E : Value → Shared → Prop} {s : Shared}
theorem not_frame {base : Heap} {l : List Env} {b : Addr} {o : Obj} {vs : Array Value} (hl : s.heap.FunFrames base l) (e : s.heap.get? b = some o) (d : o.data = .fields vs) : b ∉ fra l := fun z => by
  obtain ⟨_, o', e', d'⟩ := hl.mem z
  rw [e] at e'
  cases e'
  exact d' vs d
/-- a new entry is laid -/
theorem entry_new {base : Heap} {env : Env} {outer : List Env} {L e : Addr} {c head : Value} {vs : Array Value} {hadNext : Bool} {Q : Unit → Shared → Prop} (hfr : A.frames = some (env :: outer)) (hl : s.heap.FunFrames base (env :: outer)) (hf : env.frame = some L)
    (he : s.heap.get? e = some { cls := c, data := .fields vs }) (hz : 1 < vs.size)
    (hQ : ∀ h' T, s.heap.objs.size ≤ T → h'.get? e = some { cls := c, data := .fields (vs.setIfInBounds 1 (.ref T)) } → (∃ oT ts, h'.get? T = some oT ∧ oT.data = .fields ts ∧ ts[3]? = some (rawInt L)) → Kpt [e] (fra (env :: outer)) s.heap h' → Q () { s with heap := h' }) :
    wpAny M A (do let a ← frameOf env; let pl ← entryPlaceOf L hadNext; let b ← EntryCells.newEntry head a .none (rawInt L) .none pl; setField (.ref e) 1 b) Q E s := by
  have nfr : e ∉ fra (env :: outer) := not_frame hl he rfl
  refine wpAny_bind (wpAny_frameOf_fun hfr hl hf fun k1 so => ?_)
  refine wpAny_bind (wpAny_entryPlaceOf fun pl ip => ?_)
  unfold EntryCells.newEntry newFields
  refine wpAny_bind (wpAny_newObj_type ?_ (ip.sizeOk5 _ _ _ _ _))
  generalize hob : ({ cls := .type "traceback", dict := none, data := .fields ([head, .ref L, .none, rawInt L, .none] ++ (if pl.isEmpty then List.replicate 6 Value.none else pl)).toArray } : Obj) = ob
  have e1 : k1.get? e = some { cls := c, data := .fields vs } := (so.2.1 e nfr).trans he
  have e2 := Heap.get?_push_of_some (h := k1) ob e1
  have nT : k1.objs.size ≠ e := Nat.ne_of_gt (Heap.lt_size e1)
  refine wpAny_setField e2 rfl hz (hQ _ k1.objs.size (Nat.le_of_eq so.1.symm) ?_ ?_ ⟨fun b o eb nb mb => ?_, fun b o eb nb mb => ?_⟩)
  · exact Heap.get?_update_self _ e2 rfl
  · refine ⟨ob, ([head, .ref L, .none, rawInt L, .none] ++ (if pl.isEmpty then List.replicate 6 Value.none else pl)).toArray, ?_, by rw [← hob], by simp⟩
    rw [Heap.get?_update_other _ _ (Ne.symm nT)]
    exact Heap.get?_push_size k1 (by rw [← hob]; rfl)
  · have nb' : b ≠ e := fun z => nb (by rw [z]; exact List.mem_cons_self)
    rw [Heap.get?_update_other _ _ (Ne.symm nb')]
    exact Heap.get?_push_of_some _ ((so.2.1 b mb).trans eb)
  · have nb' : b ≠ e := fun z => nb (by rw [z]; exact List.mem_cons_self)
    obtain ⟨sl, q⟩ := so.2.2 b o eb
    exact ⟨sl, by rw [Heap.get?_update_other _ _ (Ne.symm nb')]; exact Heap.get?_push_of_some _ q⟩
theorem set1 {vs : Array Value} {v : Value} (h : 1 < vs.size) : (vs.setIfInBounds 1 v)[1]? = some v := by simp [h]
/-- a frame is noted: of a new exception -/
theorem note_new {base : Heap} {env : Env} {outer : List Env} {L e C : Addr} {vs : Array Value} {Q : Unit → Shared → Prop} (hfr : A.frames = some (env :: outer)) (hl : s.heap.FunFrames base (env :: outer)) (hf : env.frame = some L)
    (he : s.heap.get? e = some { cls := .ref C, data := .fields vs }) (h1 : vs[1]? = some .none)
    (hQ : ∀ h' T, s.heap.objs.size ≤ T → Exc h' e T C (rawInt L) → Kpt [e] (fra (env :: outer)) s.heap h' → Q () { s with heap := h' }) : wpAny M A (noteFrame (.ref e) env) Q E s := by
  have hz : 1 < vs.size := (Array.getElem?_eq_some_iff.mp h1).1
  unfold noteFrame
  simp only [hf]
  refine wpAny_bind (wpAny_field he rfl h1 ?_)
  rw [if_neg (by decide)]
  refine entry_new hfr hl hf he hz fun h' T hT ho ht kp => hQ h' T hT ⟨⟨_, ho, set1 hz⟩, ht, fun z => ?_⟩ kp
  rw [z] at hT
  exact absurd (Heap.lt_size he) (Nat.not_lt.mpr hT)
/-- .. of one that comes from a callee -/
theorem note_on {base : Heap} {env : Env} {outer : List Env} {L e T0 C : Addr} {Q : Unit → Shared → Prop} (hfr : A.frames = some (env :: outer)) (hl : s.heap.FunFrames base (env :: outer)) (hf : env.frame = some L) (x : Exc s.heap e T0 C .none)
    (hQ : ∀ h' T, s.heap.objs.size ≤ T → Exc h' e T C (rawInt L) → Kpt [e, T0] (fra (env :: outer)) s.heap h' → Q () { s with heap := h' }) : wpAny M A (noteFrame (.ref e) env) Q E s := by
  obtain ⟨⟨vs, he, h1⟩, ⟨oT, ts, hT, dT, h3⟩, ne⟩ := x
  have hz : 1 < vs.size := (Array.getElem?_eq_some_iff.mp h1).1
  unfold noteFrame
  simp only [hf]
  refine wpAny_bind (wpAny_field he rfl h1 ?_)
  rw [if_pos (show (Value.ref T0 != Value.none) = true by simp)]
  refine wpAny_bind (wpAny_field hT dT h3 ?_)
  rw [if_neg (show ¬ ((Value.none == rawInt L) = true) by simp [rawInt])]
  refine wpAny_bind (wpAny_setField hT dT (Array.getElem?_eq_some_iff.mp h3).1 ?_)
  have oth : ∀ b, b ≠ T0 → (s.heap.update T0 (Obj.mapFields (·.setIfInBounds 3 Value.none))).get? b = s.heap.get? b := fun b hb => Heap.get?_update_other _ _ (Ne.symm hb)
  have k0 : Kpt [e, T0] (fra (env :: outer)) s.heap (s.heap.update T0 (Obj.mapFields (·.setIfInBounds 3 Value.none))) := ⟨fun b o eb nb _ => (oth b fun z => nb (by rw [z]; simp)).trans eb, fun b o eb nb _ => ⟨o.slots, (oth b fun z => nb (by rw [z]; simp)).trans eb⟩⟩
  have hl' : (s.heap.update T0 (Obj.mapFields (·.setIfInBounds 3 Value.none))).FunFrames base (env :: outer) := k0.funs hl fun b hb => by
    rcases List.mem_cons.mp hb with z | z
    · rw [z]; exact not_frame hl he rfl
    · rw [List.mem_singleton.mp z]; exact not_frame hl hT dT
  refine entry_new (s := { s with heap := s.heap.update T0 (Obj.mapFields (·.setIfInBounds 3 Value.none)) }) hfr hl' hf ((oth e (Ne.symm ne)).trans he) hz fun h' T hle ho ht kp => ?_
  have hsz : (s.heap.update T0 (Obj.mapFields (·.setIfInBounds 3 Value.none))).objs.size = s.heap.objs.size := Heap.size_after_update ..
  have hle' : s.heap.objs.size ≤ T := by rw [← hsz]; exact hle
  refine hQ h' T hle' ⟨⟨_, ho, set1 hz⟩, ht, fun z => ?_⟩ (k0.trans (kp.mono fun b hb => by rw [List.mem_singleton.mp hb]; simp))
  rw [z] at hle'
  exact absurd (Heap.lt_size he) (Nat.not_lt.mpr hle')
/-- the entry says another thing -/
theorem flight_set {e T C : Addr} {fl : Value} {to : Option Addr} {Q : Unit → Shared → Prop} (x : Exc s.heap e T C fl)
    (hQ : ∀ h', Exc h' e T C (to.elim Value.none fun f => rawInt f) → (∀ b, b ≠ T → h'.get? b = s.heap.get? b) → h'.objs.size = s.heap.objs.size → Q () { s with heap := h' }) : wpAny M A (setFlight (.ref e) to) Q E s := by
  obtain ⟨⟨vs, he, h1⟩, ⟨oT, ts, hT, dT, h3⟩, ne⟩ := x
  have hz : 3 < ts.size := (Array.getElem?_eq_some_iff.mp h3).1
  unfold setFlight
  refine wpAny_bind (wpAny_field he rfl h1 ?_)
  rw [if_pos (show (Value.ref T != Value.none) = true by simp)]
  have oth : ∀ b, b ≠ T → (s.heap.update T (Obj.mapFields (·.setIfInBounds 3 (to.elim Value.none fun f => rawInt f)))).get? b = s.heap.get? b := fun b hb => Heap.get?_update_other _ _ (Ne.symm hb)
  refine wpAny_setField hT dT hz (hQ _ ⟨⟨vs, (oth e (Ne.symm ne)).trans he, h1⟩, ⟨_, _, Heap.get?_update_self _ hT (Obj.isFreed_of_fields (Obj.data_mapFields dT _)), Obj.data_mapFields dT _, by simp [hz]⟩, ne⟩ oth (Heap.size_after_update ..))
end

section
variable {M : Model} {A : Around} {E : Value → Shared → Prop}
/-- what an object of a class that raises looks like -/
structure XCls (h : Heap) (C : Addr) (bm : List Value) : Prop where
  ex : ∃ nm q N bs hdct sn sub ab col dd k0 k1 k2 k3 k5 newId, h.get? C = some (excClassObj nm q C N bs bm hdct sn sub ab col dd k0 k1 k2 k3 k5 newId)
  bs : bm.contains (.type "BaseException") = true
theorem exc_hit {s : Shared} {C D e : Addr} {bm bd : List Value} {oe : Obj} {b : Bool} {Q : Bool → Shared → Prop} (xC : XCls s.heap C bm) (xD : XCls s.heap D bd) (he : s.heap.get? e = some oe) (hc : oe.cls = .ref C)
    (hit : (Value.ref C :: bm).contains (.ref D) = b) (hq : Q b s) : wpAny M A (excMatches (.ref e) (.ref D)) Q E s := by
  obtain ⟨hp, g, d, tk, os⟩ := s
  obtain ⟨⟨nm, q, N, bs, hd, sn, sub, ab, col, dd, k0, k1, k2, k3, k5, ni, hC⟩, _⟩ := xC
  obtain ⟨⟨nm', q', N', bs', hd', sn', sub', ab', col', dd', k0', k1', k2', k3', k5', ni', hD⟩, hB⟩ := xD
  have hB' : (Value.ref D :: bd).contains (.type "BaseException") = true := by rw [List.contains_cons, hB, Bool.or_true]
  have nt := tc_notTuple
  unfold excMatches
  repeat (first
    | (with_reducible refine wpAny_loadPart_at hD ?_)
    | (with_reducible refine wpAny_isSubtype_exc hD ?_; rw [hB'])
    | (with_reducible refine wpAny_loadPart_at he ?_; rw [hc])
    | (with_reducible refine wpAny_isSubtype_exc hC ?_; rw [hit])
    | wp_step)
  all_goals (cases b <;> (try wp_walk) <;> exact hq)
end

/-! ### the heap behind an exception -/
section
variable {P : Program} {w : World} {H H' : Hp} {h h1 h2 : Heap} {fs fs' S ex : List Addr}
theorem objOk_there {a : Addr} {o : HO} (x : ObjOk P w H h a o) : ∃ ob, h.get? a = some ob := by
  cases o with
  | lst xs => obtain ⟨_, _, _, _, e⟩ := x; exact ⟨_, e⟩
  | tup xs => obtain ⟨_, _, _, ob, e, _⟩ := x; exact ⟨_, e⟩
  | dK kvs => obtain ⟨_, _, _, _, o, _, _, e, _⟩ := x; exact ⟨_, e⟩
  | dT kvs => exact False.elim x
  | set S n => obtain ⟨o, _, _, _, e, _⟩ := x; exact ⟨_, e⟩
  | ins C dx f => obtain ⟨_, _, _, e, _⟩ := x; exact ⟨_, e⟩
  | own y => exact x
  | xd f => obtain ⟨_, ⟨_, _, _, e, _⟩, _⟩ := x; exact ⟨_, e⟩
  | rng lo hi => obtain ⟨_, _, _, e⟩ := x; exact ⟨_, e⟩
  | frz ob u => exact ⟨_, x.1⟩
  | tbl ps => exact ⟨_, show h.get? a = some _ from x⟩
  | met f y => exact ⟨_, show h.get? a = some _ from x⟩
  | ext φ => exact x.2.1
theorem hok_none (k : HOk P w H h) {a : Addr} (e : h.get? a = none) : H a = none := by
  cases q : H a with
  | none => rfl
  | some o =>
    obtain ⟨ob, z⟩ := objOk_there (k a o q)
    rw [e] at z
    cases z
theorem un_kpt (u : Un fs ex H H' h h1) (k : Kpt S fs' h1 h2) (hS : ∀ b ∈ S, h.get? b = none) (hf : ∀ b ∈ fs', b ∈ fs ∨ h.get? b = none) : Un fs ex H H' h h2 where
  keep := fun b o e n hb hx => k.keep b o (u.keep b o e n hb hx) (fun z => by rw [hS b z] at e; cases e) fun z => by
    rcases hf b z with q | q
    · exact hb q
    · rw [q] at e; cases e
  slot := fun b o e n hb hx => by
    obtain ⟨sl, q⟩ := u.slot b o e n hb hx
    obtain ⟨sl', q'⟩ := k.any q fun z => by rw [hS b z] at e; cases e
    exact ⟨sl', q'⟩
  free := u.free
  there := fun b o e hx => by
    obtain ⟨o', q⟩ := u.there b o e hx
    obtain ⟨sl, q'⟩ := k.any q fun z => by rw [hS b z] at e; cases e
    exact ⟨_, q'⟩
  tups := u.tups
  frzs := u.frzs
  tbls := u.tbls
theorem hok_kpt (x : HOk P w H h1) (k : Kpt S fs' h1 h2) (hS : ∀ b ∈ S, H b = none) (hf : ∀ b ∈ fs', H b = none) : HOk P w H h2 := fun b o e =>
  (x b o e).stay (fun c v hc q => by
    have hn : H c ≠ none := by
      rcases hc with z | z
      · rw [z, e]; exact fun z => nomatch z
      · rw [z]; exact fun z => nomatch z
    exact k.keep c v q (fun z => hn (hS c z)) fun z => hn (hf c z)) (fun _ q => q) fun _ _ q => q
end

section
variable {X : Cx} {pins : List (Addr × Obj)} {σ : L2.St} {H : Hp} {s : Shared} {S : List Addr}
/-- the records in S have turned, the frames that run up to slots -/
theorem inv_kpt {h' : Heap} {t' : Nat} (I : Inv X pins σ H s) (k : Kpt S (frs X.stack) s.heap h') (h0 : ∀ b ∈ S, X.s₀.heap.get? b = none) (hl : ∀ b ∈ S, b ≠ X.env.locals) (hc : ∀ b ∈ S, ∀ x c, X.env.cells.lookup x = some c → c ≠ b)
    (hp : ∀ b ∈ S, ∀ p ∈ X.pn ++ pins, p.1 ≠ b) (hn : ∀ b ∈ S, H b = none) : Inv X pins σ H { s with heap := h', toks := t' } where
  ok := I.ok
  os := I.os
  bare := I.bare
  base := un_kpt I.base k h0 fun b hb => by
    rcases List.mem_cons.mp (I.stkSub b hb) with z | z
    · refine .inr ?_
      rw [z]
      exact Heap.get?_none_of_le I.ok.above
    · exact .inl z
  loc := by
    obtain ⟨m, ⟨o, es, ep, ho, r⟩, hv⟩ := I.loc
    obtain ⟨sl, q⟩ := k.any ho fun z => hl _ z rfl
    refine ⟨m, ⟨_, es, ep, q, r⟩, fun i x v e1 e2 e3 => ?_⟩
    obtain ⟨u, ru, l⟩ := hv i x v e1 e2 e3
    refine ⟨u, ru, ?_⟩
    rcases l with l | ⟨kk, c, e, oc, hoc, hd⟩
    · exact .inl l
    · obtain ⟨sl', q'⟩ := k.any hoc fun z => hc c z x c e rfl
      exact .inr ⟨kk, c, e, _, q', hd⟩
  cell := fun x c e => by
    obtain ⟨v, oc, hoc, hd⟩ := I.cell x c e
    obtain ⟨sl', q'⟩ := k.any hoc fun z => hc c z x c e rfl
    exact ⟨v, _, q', hd⟩
  free := I.free
  freeC := I.freeC
  pin := fun p hp' => by
    obtain ⟨e, n, ne, nf, d⟩ := I.pin p hp'
    refine ⟨k.keep p.1 p.2 e (fun z => hp p.1 z p hp' rfl) (fun z => ?_), n, ne, nf, d⟩
    rcases List.mem_cons.mp (I.stkSub p.1 z) with q | q
    · exact ne q
    · exact nf q
  hok := hok_kpt I.hok k hn I.stkFree
  len := I.len
/-- an object that stands there is tracked -/
theorem inv_track {a : Addr} {o : HO} (I : Inv X pins σ H s) (h0 : X.s₀.heap.get? a = none) (hl : a ≠ X.env.locals) (hc : ∀ x c, X.env.cells.lookup x = some c → c ≠ a) (hp : ∀ p ∈ X.pn ++ pins, p.1 ≠ a) (hn : H a = none)
    (ok : ObjOk X.prog X.w (upd H a o) s.heap a o) : Inv X pins σ (upd H a o) s where
  ok := I.ok
  os := I.os
  bare := I.bare
  base := ⟨I.base.keep, I.base.slot, fun b ob e n hx => by rw [upd_ne fun z => by rw [z, h0] at e; cases e]; exact I.base.free b ob e n hx, I.base.there,
    fun b xs e => by have q := I.base.tups b xs e; rw [upd_ne (ne_of_none q hn)]; exact q, fun b ob u e => by have q := I.base.frzs b ob u e; rw [upd_ne (ne_of_none q hn)]; exact q,
    fun b ps e => by obtain ⟨m, q⟩ := I.base.tbls b ps e; exact ⟨m, by rw [upd_ne (ne_of_none q hn)]; exact q⟩⟩
  loc := I.loc
  cell := I.cell
  free := by rw [upd_ne (Ne.symm hl)]; exact I.free
  freeC := fun x c e => by rw [upd_ne (hc x c e)]; exact I.freeC x c e
  pin := fun p hp' => by
    obtain ⟨e, n, r⟩ := I.pin p hp'
    exact ⟨e, by rw [upd_ne (hp p hp')]; exact n, r⟩
  hok := fun b u e => by
    by_cases hb : b = a
    · subst hb; rw [upd_same] at e; cases e; exact ok
    · rw [upd_ne hb] at e
      exact (I.hok b u e).stay (fun _ _ _ q => q) (fun c q => by rw [upd_ne (ne_of_none q hn)]; exact q) fun c xs q => by rw [upd_ne (ne_of_none q hn)]; exact q
  len := I.len
/-- a name is let go -/
theorem inv_unname {j : Nat} {n : Str} {h' : Heap} {t' : Nat} {v : Option Value} {m : Str → Option Value} (I : Inv X pins σ H s) (hN : X.N.Nodup) (hj : X.N[j]? = some n)
    (hm : s.heap.Ns X.env.locals m) (hl : ∀ (i : Nat) (x : Str) (v : V), X.N[i]? = some x → σ[i]? = some (some v) → Vis X.env.scope x → ∃ u, RelV v u ∧ Look X.env s.heap m x u)
    (hn : h'.Ns X.env.locals (fun x => if x = n then v else m x)) (hs : Heap.SameBut X.env.locals s.heap h') : Inv X pins (σ.set j none) H { s with heap := h', toks := t' } where
  ok := I.ok
  os := I.os
  bare := I.bare
  base := ⟨fun b o e k hb hx => (hs.2 b (Nat.ne_of_lt (Nat.lt_of_lt_of_le (Heap.lt_size e) I.ok.above))).trans (I.base.keep b o e k hb hx), fun b o e k hb hx => by
      obtain ⟨sl, q⟩ := I.base.slot b o e k hb hx
      exact ⟨sl, (hs.2 b (Nat.ne_of_lt (Nat.lt_of_lt_of_le (Heap.lt_size e) I.ok.above))).trans q⟩, I.base.free, fun b o e hx => by
      obtain ⟨o', q⟩ := I.base.there b o e hx
      exact ⟨o', (hs.2 b (Nat.ne_of_lt (Nat.lt_of_lt_of_le (Heap.lt_size e) I.ok.above))).trans q⟩, I.base.tups, I.base.frzs, I.base.tbls⟩
  loc := by
    refine ⟨_, hn, fun i x v' e1 e2 e3 => ?_⟩
    have hij : j ≠ i := fun z => by
      subst z
      have hlt : j < σ.length := by rw [I.len]; exact (List.getElem?_eq_some_iff.mp hj).1
      rw [List.getElem?_set_self hlt] at e2
      cases e2
    rw [List.getElem?_set_ne hij] at e2
    have hx : x ≠ n := fun z => hij (nodup_ix hN hj (z ▸ e1))
    obtain ⟨u, ru, l⟩ := hl i x v' e1 e2 e3
    refine ⟨u, ru, ?_⟩
    rcases l with ⟨k, e⟩ | ⟨k, c, e, z⟩
    · exact .inl ⟨k, by show (if x = n then v else m x) = _; rw [if_neg hx]; exact e⟩
    · exact .inr ⟨k, c, e, z.sameBut hs (I.cne x c e)⟩
  cell := fun x c e => by
    obtain ⟨v', z⟩ := I.cell x c e
    exact ⟨v', z.sameBut hs (I.cne x c e)⟩
  free := I.free
  freeC := I.freeC
  pin := fun p hp => by
    obtain ⟨e, k, ne, r⟩ := I.pin p hp
    exact ⟨(hs.2 p.1 ne).trans e, k, ne, r⟩
  hok := fun b o e => (I.hok b o e).stay (fun c u hc q => (hs.2 c (by
    rcases hc with z | z
    · rw [z]; exact ne_of_none e I.free
    · exact ne_of_none z I.free)).trans q) (fun _ q => q) fun _ _ q => q
  len := by rw [List.length_set]; exact I.len
end

/-! ### how an exception lies behind a call -/
def CXv (P : Program) (w : World) : CXT := fun outer H s E e s' => ∃ (ea T C : Addr) (H' : Hp), e = .ref ea ∧ Exc s'.heap ea T C .none ∧ s.heap.get? ea = none ∧ s.heap.get? T = none ∧ H' ea = none ∧ H' T = none ∧
  s'.os = s.os ∧ AllBare s'.gens ∧ Un (frs outer) [] H H' s.heap s'.heap ∧ HOk P w H' s'.heap ∧ E (.ref C) none H'
/-- what is raised here is wanted so -/
def Lands (X : Cx) (E : XK) : Prop := ∀ (pins : List (Addr × Obj)) (σ : L2.St) (H : Hp) (s : Shared) (h' : Heap) (ea C : Addr) (vs : Array Value), Inv X pins σ H s → (∀ b o, s.heap.get? b = some o → h'.get? b = some o) → s.heap.get? ea = none →
  h'.get? ea = some { cls := .ref C, data := .fields vs } → vs[1]? = some .none → E (.ref C) none H → X.xe (.ref ea) { s with heap := h' }

section
variable {P : Program} {w : World} {K : PySem.W.Frag} {mg : Str → Option Value} {base : Heap} {N : List Str} {qual : Str} {scope : Scope} {f : Addr} {cd : Value} {A : Around} {outer : List Env} {s0 : Shared} {H0 : Hp} {E : XK}
theorem old_none {X : Cx} {pins : List (Addr × Obj)} {σ : L2.St} {H : Hp} {s : Shared} (I : Inv X pins σ H s) (hex : X.ex = []) {b : Addr} (e : s.heap.get? b = none) : X.s₀.heap.get? b = none := by
  cases q : X.s₀.heap.get? b with
  | none => rfl
  | some o =>
    obtain ⟨o', z⟩ := I.base.there b o q (by rw [hex]; simp)
    rw [e] at z
    cases z
theorem size_none {h : Heap} {b : Addr} (e : h.objs.size ≤ b) : h.get? b = none := Heap.get?_none_of_le e
theorem lands_def : Lands (cxOf (CXv P w) P w K mg base N qual scope f cd A outer s0 H0 E) E := by
  intro pins σ H s h' ea C vs I kp new ho h1 hE
  have I' := I.kept (t' := s.toks) (h' := h') kp
  have st := I'.stack
  show wpAny (model P w) (A.deeper (envOfC qual scope s0.heap.objs.size f cd)) (leaving (envOfC qual scope s0.heap.objs.size f cd) (.ref ea)) _ _ { s with heap := h' }
  unfold leaving
  refine wpAny_bind (note_new (s := { s with heap := h' }) (base := base) (outer := outer) (L := s0.heap.objs.size) I'.ok.frames st rfl ho h1 fun k1 T hT x1 kp1 => ?_)
  refine flight_set (to := none) x1 fun k2 x2 oth sz => ?_
  have nT : ∀ b o, h'.get? b = some o → b ≠ T := fun b o e z => by
    rw [z] at e
    exact absurd (Heap.lt_size e) (Nat.not_lt.mpr hT)
  have kp2 : Kpt [ea] (frs ((cxOf (CXv P w) P w K mg base N qual scope f cd A outer s0 H0 E).stack)) h' k2 := ⟨fun b o e n m => (oth b (nT b o e)).trans (kp1.keep b o e n m), fun b o e n m => by
    obtain ⟨sl, q⟩ := kp1.slot b o e n m
    exact ⟨sl, (oth b (nT b o e)).trans q⟩⟩
  have n0 : s0.heap.get? ea = none := old_none I rfl new
  have hne : H ea = none := hok_none I.hok new
  have n1 : h'.get? T = none := size_none hT
  have hnT : H T = none := hok_none I'.hok n1
  have hs : ∀ b ∈ [ea], s0.heap.get? b = none := fun b hb => by rw [List.mem_singleton.mp hb]; exact n0
  refine ⟨ea, T, C, H, rfl, x2, n0, old_none I' rfl n1, hne, hnT, I.os, I.bare, un_kpt I'.base kp2 hs fun b hb => ?_, hok_kpt I'.hok kp2 (fun b hb => by rw [List.mem_singleton.mp hb]; exact hne) I'.stkFree, hE⟩
  rcases List.mem_cons.mp (I'.stkSub b hb) with z | z
  · exact .inr (by rw [z]; exact size_none I.ok.above)
  · exact .inl z
theorem passes_def : Passes (CXv P w) (cxOf (CXv P w) P w K mg base N qual scope f cd A outer s0 H0 E) E := by
  intro pins σ H s e s' I hx
  obtain ⟨ea, T0, C, H', rfl, x, n1, n2, t1, t2, os, bare, un, hok, hE⟩ := hx
  have I' : Inv (cxOf (CXv P w) P w K mg base N qual scope f cd A outer s0 H0 E) pins σ H' s' := I.call' os un hok bare fun b z => absurd z (by simp)
  have st := I'.stack
  show wpAny (model P w) (A.deeper (envOfC qual scope s0.heap.objs.size f cd)) (leaving (envOfC qual scope s0.heap.objs.size f cd) (.ref ea)) _ _ s'
  unfold leaving
  refine wpAny_bind (note_on (base := base) (outer := outer) (L := s0.heap.objs.size) I'.ok.frames st rfl x fun k1 T hT x1 kp1 => ?_)
  refine flight_set (to := none) x1 fun k2 x2 oth sz => ?_
  have nT : ∀ b o, s'.heap.get? b = some o → b ≠ T := fun b o e z => by
    rw [z] at e
    exact absurd (Heap.lt_size e) (Nat.not_lt.mpr hT)
  have kp2 : Kpt [ea, T0] (frs ((cxOf (CXv P w) P w K mg base N qual scope f cd A outer s0 H0 E).stack)) s'.heap k2 := ⟨fun b o e n m => (oth b (nT b o e)).trans (kp1.keep b o e n m), fun b o e n m => by
    obtain ⟨sl, q⟩ := kp1.slot b o e n m
    exact ⟨sl, (oth b (nT b o e)).trans q⟩⟩
  have n0 : s0.heap.get? ea = none := old_none I rfl n1
  have n3 : s'.heap.get? T = none := size_none hT
  have two : ∀ {Pr : Addr → Prop}, Pr ea → Pr T0 → ∀ b ∈ [ea, T0], Pr b := fun {Pr} a c b hb => by
    rcases List.mem_cons.mp hb with z | z
    · rw [z]; exact a
    · rw [List.mem_singleton.mp z]; exact c
  refine ⟨ea, T, C, H', rfl, x2, n0, old_none I' rfl n3, t1, hok_none I'.hok n3, I'.os, I'.bare, un_kpt I'.base kp2 (two n0 (old_none I rfl n2)) fun b hb => ?_, hok_kpt I'.hok kp2 (two t1 t2) I'.stkFree, hE⟩
  rcases List.mem_cons.mp (I'.stkSub b hb) with z | z
  · exact .inr (by rw [z]; exact size_none I.ok.above)
  · exact .inl z
/-- a def that may raise -/
theorem Fun.okX {x : Str} {st : Stmt} {f : Addr} {fd : FuncData} {N ps : List Str} {k : Nat} {sp : Sp} (F : Fun K x x st f fd) (S : FnScope N ps (defScope st)) (len : ∀ vs H Q E, sp vs H Q E → vs.length = ps.length)
    (hbody : ∀ (cdv : Value) (A : Around) (outer : List Env) (s : Shared) (H : Hp) (vs : List V) (Q : VK) (E : XK), Room k (A.deeper (envOfC x (defScope st) s.heap.objs.size f cdv)) → sp vs H Q E →
      ∃ t, PSs (cxOf (CXv P w) P w K mg base N x (defScope st) f cdv A outer s H E) (defBody st) t ∧ t { nx := fun _ H' => Q .non H', rt := Q } (start N vs) H) : FnOk P w K mg base (CXv P w) (k + 1) f fd ps sp := by
  obtain ⟨oc, od, kV, doc, pm, an, cdv, ct, osl, rfl, lk, hcd⟩ := F.ex
  exact fn_of lk hcd S len fun A outer s H vs Q E hr hsp => hbody cdv A outer s H vs Q E hr hsp
/-- .. and leaves nothing behind, either way -/
def SpX (sp : Sp) : Sp := fun vs H Q2 E2 => ∃ (Q : VK) (E : XK), (∀ v H', Rst H H' (Q v) → Q2 v H') ∧ (∀ c o H', Rst H H' (E c o) → E2 c o H') ∧ sp vs H Q E
theorem FnOk.rstX {k : Nat} {f : Addr} {fd : FuncData} {ps : List Str} {sp : Sp} (F : FnOk P w K mg base (CXv P w) k f fd ps (SpX sp)) : FnOk P w K mg base (CXv P w) k f fd ps sp :=
  ⟨fun vs H Q E h => F.len vs H (fun v H' => Rst H H' (Q v)) (fun c o H' => Rst H H' (E c o)) ⟨Q, E, fun _ _ z => z, fun _ _ _ z => z, h⟩, fun A outer s H args us vs Q E hr he hb hv hs =>
    codeAny_mono (F.run A outer s H args us vs (fun v H' => Rst H H' (Q v)) (fun c o H' => Rst H H' (E c o)) hr he hb hv ⟨Q, E, fun _ _ z => z, fun _ _ _ z => z, hs⟩) fun r s' hq => by
      cases r with
      | error e =>
        obtain ⟨ea, T, C, H', e0, x, n1, n2, t1, t2, os, bare, un, hok, Hr, s1, s2, hn, q⟩ := hq
        exact ⟨ea, T, C, Hr, e0, x, n1, n2, s2.free t1, s2.free t2, os, bare, un_rst un s1 s2, hok_rst he.hok hok s1 s2 hn, q⟩
      | ok fl =>
        cases fl with
        | ret u =>
          obtain ⟨v, H', e1, e2, e3, e4, e5, Hr, s1, s2, hn, q⟩ := hq
          exact ⟨v, Hr, e1, e2, un_rst e3 s1 s2, hok_rst he.hok e4 s1 s2 hn, e5, q⟩
        | next => exact False.elim hq
        | brk => exact False.elim hq
        | cont => exact False.elim hq⟩
theorem Fun.okXR {x : Str} {st : Stmt} {f : Addr} {fd : FuncData} {N ps : List Str} {k : Nat} {sp : Sp} (F : Fun K x x st f fd) (S : FnScope N ps (defScope st)) (len : ∀ vs H Q E, sp vs H Q E → vs.length = ps.length)
    (hbody : ∀ (cdv : Value) (A : Around) (outer : List Env) (s : Shared) (H : Hp) (vs : List V) (Q Q2 : VK) (E E2 : XK), Room k (A.deeper (envOfC x (defScope st) s.heap.objs.size f cdv)) → sp vs H Q E → (∀ v H', Rst H H' (Q v) → Q2 v H') → (∀ c o H', Rst H H' (E c o) → E2 c o H') →
      ∃ t, PSs (cxOf (CXv P w) P w K mg base N x (defScope st) f cdv A outer s H E2) (defBody st) t ∧ t { nx := fun _ H' => Q2 .non H', rt := Q2 } (start N vs) H) : FnOk P w K mg base (CXv P w) (k + 1) f fd ps sp :=
  FnOk.rstX (Fun.okX F S (fun vs H Q2 E2 ⟨Q, E, _, _, h⟩ => len vs H Q E h) fun cdv A outer s H vs Q2 E2 hr ⟨Q, E, hq, hE, h⟩ => hbody cdv A outer s H vs Q Q2 E E2 hr h hq hE)
end

/-! ### raise C(text) -/
theorem exc_obj {K : PySem.W.Frag} {h : Heap} {C : Addr} {bmB : List Value} {newId : String} (X : K.In h) (q : PySem.W.excIn K C bmB newId = true) :
    ∃ bm N nm qn bs hd sn sub ab col dd k0 k1 k2 k3 k5 mN, K.lookup C = some (excClassObj nm qn C N bs bm hd sn sub ab col dd k0 k1 k2 k3 k5 newId) ∧ h.Ns N mN ∧ mN "__init__" = none ∧ PySem.W.tailIn K bmB bm = true := by
  unfold PySem.W.excIn at q
  cases e1 : K.lookup C with
  | none => rw [e1] at q; cases q
  | some ob =>
    rw [e1] at q
    obtain ⟨cl, dd, dt, sl⟩ := ob
    split at q
    · rename_i dd' cd sl' hq
      cases hq
      split at q
      · rename_i C' bm k0 k1 k2 k3 n k5 hm hs
        simp only [Bool.and_eq_true, beq_iff_eq, Bool.not_eq_true'] at q
        obtain ⟨⟨⟨⟨⟨rfl, rfl⟩, hdel⟩, ht⟩, hok⟩, hni⟩ := q
        obtain ⟨nm, bs, mro, ns, qn, hd, sn, sub, ab, col, del⟩ := cd
        dsimp only at hm hdel hok hni
        subst hm hdel
        have hsl : sl = #[k0, k1, k2, k3, some (.builtin n), k5] := by
          cases sl
          exact congrArg Array.mk hs
        subst hsl
        exact ⟨bm, ns, nm, qn, bs, hd, sn, sub, ab, col, dd, k0, k1, k2, k3, k5, _, rfl, .of_isNs (PySem.W.isNs_of_in X hok), PySem.W.nsMap_none_of_in X hok hni, ht⟩
      · cases q
    · cases q
def vmro : List Value := [.type "ValueError", .type "Exception", .type "BaseException", .type "object"]
/-- a class of the text that stands somewhere beneath ValueError -/
abbrev VEx (K : PySem.W.Frag) (C : Addr) : Prop := PySem.W.excIn K C vmro "ValueError.__new__" = true
theorem VEx.cls {K : PySem.W.Frag} {h : Heap} {C : Addr} (X : K.In h) (q : VEx K C) : ∃ bm, XCls h C bm := by
  obtain ⟨bm, N, nm, qn, bs, hd, sn, sub, ab, col, dd, k0, k1, k2, k3, k5, mN, e, _, _, ht⟩ := exc_obj X q
  exact ⟨bm, ⟨nm, qn, N, bs, hd, sn, sub, ab, col, dd, k0, k1, k2, k3, k5, _, X _ _ e⟩, (PySem.W.tail_of_in X ht).hasType (by decide)⟩
section
variable {X : Cx} {x : Str} {C : Addr} {a : Expr} {ta : TE} {E : XK} {np cpos pos : Pos}
def tRaise (C : Addr) (ta : TE) (E : XK) : TS := fun _ σ H => tCons ta tNil σ H fun vs H1 => vs.length ≤ sizeLine ∧ E (.ref C) none H1
theorem ps_raise (hc : X.calm = true) (hg : Gl X x) (hm : X.mg x = some (.ref C)) (hx : VEx X.K C) (L : Lands X E) (ha : PE X a ta) (hdb : (x == ("__debug__" : Str)) = false := by decide)
    (hs : starEach [a] X.env = [(false, eval a X.env)] := by rfl) (hpl : (backTo cpos (starEach [a] X.env)).any (·.1) = false := by rfl) :
    PS X (.Raise (some (.Call (.Name x np) [a] [] cpos)) none pos) (tRaise C ta E) := by
  intro pins s σ H D I h
  obtain ⟨bm, N, nm, qn, bs, hd, sn, sub, ab, col, dd, k0, k1, k2, k3, k5, mN, e, hN, hni, ht⟩ := exc_obj I.ok.mod.kin hx
  have T0 := PySem.W.tail_of_in I.kIn ht
  refine wpAny_Raise_call_subT (C := C) (nm := nm) (q := qn) (N := N) (bs := bs) (bm := bm) (hdct := hd) (sn := sn) (sub := sub) (ab := ab) (col := col) (dd := dd) (k0 := k0) (k1 := k1) (k2 := k2) (k3 := k3) (k5 := k5) (mN := mN) F.excBase_ValueError (T0.hasType (by decide)) (I.ok.hd hc) hpl hni (ld_glob I hg hm ⟨rfl, ?_⟩ hdb)
  have pa : PA X [a] (tCons ta tNil) := pa_cons ha pa_nil hs
  have hA := pa cpos pins s σ H _ I h
  rw [hs] at hA ⊢
  refine Calls.evalArgs_plain (thn hA fun us s2 ⟨vs, H2, I2, r, hz, q⟩ => ?_)
  refine ⟨rfl, by rw [← r.length]; exact hz, I2.kIn _ _ e, hN.keeps I2.bk, PySem.W.tail_of_in I2.kIn ht, fun h' ea hm' => ?_⟩
  obtain ⟨t, he, _, _⟩ := hm'.there
  exact L pins σ H2 s2 h' ea C _ I2 hm'.keeps hm'.new he rfl q
end

/-! ### try: x = f(..) except C as n: .. -/
def hand (X : Cx) (ea : Addr) : Cx := { X with A := X.A.mark (some (.ref ea)), calm := false, xe := fun _ _ => False }
section
variable {X : Cx} {pins : List (Addr × Obj)} {σ : L2.St} {H : Hp} {s : Shared} {ea : Addr}
theorem ok_hand (ok : X.Ok) : (hand X ea).Ok :=
  ⟨ok.mod, ok.kind, ok.glob, ok.blt, ok.above, ok.inj, ok.has, ok.cab, fun z => absurd (show false = true from z) Bool.false_ne_true, ok.frames, ok.stk, ok.exf, ok.bs, ok.bsz, ok.noex, ok.exfs, ok.funs, ok.frf⟩
theorem inv_hand (I : Inv X pins σ H s) : Inv (hand X ea) pins σ H s := ⟨ok_hand I.ok, I.os, I.bare, I.base, I.loc, I.cell, I.free, I.freeC, I.pin, I.hok, I.len⟩
theorem inv_unhand (ok : X.Ok) (I : Inv (hand X ea) pins σ H s) : Inv X pins σ H s := ⟨ok, I.os, I.bare, I.base, I.loc, I.cell, I.free, I.freeC, I.pin, I.hok, I.len⟩
end
/-- an exception of the class at C stands at ea -/
def excO (ea C : Addr) : HO := .ext fun h => ∃ vs, h.get? ea = some { cls := .ref C, data := .fields vs }
theorem excO_ok {P : Program} {w : World} {H : Hp} {h : Heap} {ea C : Addr} {vs : Array Value} (e : h.get? ea = some { cls := .ref C, data := .fields vs }) : ObjOk P w H h ea (excO ea C) :=
  ⟨⟨vs, e⟩, ⟨_, e⟩, fun _ _ ⟨ws, q⟩ k => ⟨ws, k _ q⟩⟩
section
variable {X : Cx} {CX : CXT} {k : Nat} {f : Addr} {fd : FuncData} {ps : List Str} {sp : Sp} {fx x n c : Str} {e : Expr} {es : List Expr} {ta : TA} {p pos : Pos}
theorem eval_call {pins : List (Addr × Obj)} {σ : L2.St} {H : Hp} {s : Shared} {Q : VK} {E : XK} (hne : ∀ e s, X.xe e s → False) (F : FnOk X.prog X.w X.K X.mg X.base CX k f fd ps sp) (hr : Room k X.A) (hg : Gl X fx) (hm : X.mg fx = some (.ref f)) (hk : PySem.W.keepIn X.K (.ref f) = true) (hb : Binds X.K fd ps [])
    (ha : PA X (e :: es) ta) (I : Inv X pins σ H s) (h : ta σ H fun vs H1 => sp vs H1 Q E) (hdb : (fx == ("__debug__" : Str)) = false) (he : starEach (e :: es) X.env = (false, eval e X.env) :: starEach es X.env) (hpl : (backTo pos (starEach es X.env)).any (·.1) = false) :
    wpAny (model X.prog X.w) X.A (eval (.Call (.Name fx p) (e :: es) [] pos) X.env) (EP X pins σ Q) (fun e s' => ∃ H1 s1, Inv X pins σ H1 s1 ∧ CX X.stack H1 s1 E e s') s := by
  refine wpAny_Call_Name_kw (ld_glob I hg hm ?_ hdb)
  refine PySem.W.callWith_K (h₀ := X.base) I.ok.mod.kin hk (wpAny_mono (ha pos pins s σ H _ I h) (fun us s1 ⟨vs, H1, I1, r, q⟩ => ⟨I1.kIn, ?_⟩) fun _ _ z => (hne _ _ z).elim) he hpl
  have hl : us.length = ps.length := by rw [← r.length]; exact F.len _ _ _ _ q
  have hb' := hb s1 us I1.kIn (by rw [List.append_nil]; exact hl)
  rw [List.append_nil] at hb'
  refine wpAny_call (codeAny_mono (F.run X.A X.stack s1 H1 ⟨us, []⟩ us vs Q E hr I1.env0 hb' r q) fun r' s' hq => ?_)
  cases r' with
  | error e => exact ⟨H1, s1, I1, hq⟩
  | ok fl =>
    cases fl with
    | ret u => exact I1.after hq
    | next => exact False.elim hq
    | brk => exact False.elim hq
    | cont => exact False.elim hq
/-- the class at C is caught by the one at D -/
def Hits (K : PySem.W.Frag) (C D : Addr) : Prop := VEx K C ∧ VEx K D ∧ ∀ h : Heap, K.In h → ∀ bm, XCls h C bm → (Value.ref C :: bm).contains (.ref D) = true
def tTry (sp : Sp) (i j : Nat) (K : PySem.W.Frag) (D : Addr) (ta : TA) (tb : TS) : TS := fun De σ H => ta σ H fun vs H1 => sp vs H1 (fun v H2 => De.nx (σ.set i (some v)) H2) fun Cv _ H2 => ∃ C, Cv = .ref C ∧ Hits K C D ∧
  ∀ ea, H2 ea = none → tb { nx := fun σ3 H3 => De.nx (σ3.set j none) H3, rt := De.rt, bk := fun σ3 H3 => De.bk (σ3.set j none) H3, ct := fun σ3 H3 => De.ct (σ3.set j none) H3 } (σ.set j (some (.ref ea))) (upd H2 ea (excO ea C))
theorem ps_try {i j : Nat} {D : Addr} {b0 : Stmt} {suite : List Stmt} {tb : TS} {px ap np hp tp : Pos} (hne : ∀ e s, X.xe e s → False) (hst : X.stack = X.env :: X.outer ∧ X.env.frame = some X.env.locals) (hex : X.ex = [])
    (F : FnOk X.prog X.w X.K X.mg X.base (CXv X.prog X.w) k f fd ps sp) (hr : Room k X.A) (hg : Gl X fx) (hm : X.mg fx = some (.ref f)) (hk : PySem.W.keepIn X.K (.ref f) = true) (hb : Binds X.K fd ps []) (ha : PA X (e :: es) ta)
    (hN : X.N.Nodup) (hi : X.N[i]? = some x) (hx : X.env.scope.names.lookup x = some .local) (hj : X.N[j]? = some n) (hn : X.env.scope.names.lookup n = some .local)
    (hgc : Gl X c) (hmc : X.mg c = some (.ref D)) (hs : ∀ ea, PSs (hand X ea) (b0 :: suite) tb)
    (hsw : swapsWith (.Call (.Name fx p) (e :: es) [] pos) (some (.Name x px)) ap.line X.env = pure false := by rfl)
    (hdb : (fx == ("__debug__" : Str)) = false := by decide) (hdc : (c == ("__debug__" : Str)) = false := by decide) (he : starEach (e :: es) X.env = (false, eval e X.env) :: starEach es X.env := by rfl) (hpl : (backTo pos (starEach es X.env)).any (·.1) = false := by rfl) :
    PS X (.Try [.Assign [.Name x px] (.Call (.Name fx p) (e :: es) [] pos) ap] [.ExceptHandler (some (.Name c np)) (some n) (b0 :: suite) hp] [] [] tp) (tTry sp i j X.K D ta tb) := by
  intro pins s σ H De I h
  refine wpAny_Try_except (wpAny_execs_cons (wpAny_Assign_Name (wpAny_mono (eval_call (pos := pos) (p := p) hne F hr hg hm hk hb ha I h hdb he hpl) (fun v s1 ⟨y, H1, I1, r1, q1⟩ => ?_) fun e0 s1 hx1 => ?_) hsw))
  · exact store_ok I1 hN hi (.inl hx) r1 (fun s2 I2 => wpAny_execs_nil (wpAny_execs_nil ⟨_, H1, I2, q1⟩)) (.inr hx)
  obtain ⟨H1, s1', I1, ea, T0, C, H', rfl, xx, n1, n2, t1, t2, os, bare, un, hok, C', eC, ⟨vC, vD, hitF⟩, hand'⟩ := hx1
  cases eC
  have I' : Inv X pins σ H' s1 := I1.call' os un hok bare fun b z => absurd z (by simp)
  -- what is true of the exception's records
  have p0 : ∀ b ∈ [ea, T0], s1'.heap.get? b = none := fun b hb => by
    rcases List.mem_cons.mp hb with z | z
    · rw [z]; exact n1
    · rw [List.mem_singleton.mp z]; exact n2
  have ne0 : ∀ b, s1'.heap.get? b = none → X.s₀.heap.get? b = none ∧ b ≠ X.env.locals ∧ (∀ x c, X.env.cells.lookup x = some c → c ≠ b) ∧ ∀ p ∈ X.pn ++ pins, p.1 ≠ b := fun b hb => by
    refine ⟨old_none I1 hex hb, fun z => ?_, fun y c' ec z => ?_, fun q hq z => ?_⟩
    · obtain ⟨m, ⟨o, _, _, ho, _⟩, _⟩ := I1.loc
      rw [← z, hb] at ho; cases ho
    · obtain ⟨v, o, ho, _⟩ := I1.cell y c' ec
      rw [z, hb] at ho; cases ho
    · have := (I1.pin q hq).1
      rw [z, hb] at this; cases this
  have tH : ∀ b ∈ [ea, T0], H' b = none := fun b hb => by
    rcases List.mem_cons.mp hb with z | z
    · rw [z]; exact t1
    · rw [List.mem_singleton.mp z]; exact t2
  have fr := I'.ok.frames
  have stk := I'.stack
  rw [hst.1] at fr stk
  refine note_on (base := X.base) (outer := X.outer) fr stk hst.2 xx fun k1 T hT x1 kp1 => ?_
  have nT1 : s1.heap.get? T = none := size_none hT
  have J1 : Inv X pins σ H' { s1 with heap := k1 } := inv_kpt (t' := s1.toks) I' (S := [ea, T0]) (by rw [hst.1]; exact kp1) (fun b hb => (ne0 b (p0 b hb)).1) (fun b hb => (ne0 b (p0 b hb)).2.1) (fun b hb => (ne0 b (p0 b hb)).2.2.1) (fun b hb => (ne0 b (p0 b hb)).2.2.2) tH
  have neT : X.s₀.heap.get? T = none ∧ T ≠ X.env.locals ∧ (∀ x c, X.env.cells.lookup x = some c → c ≠ T) ∧ (∀ p ∈ X.pn ++ pins, p.1 ≠ T) ∧ H' T = none := by
    refine ⟨old_none I' hex nT1, fun z => ?_, fun y c' ec z => ?_, fun q hq z => ?_, hok_none I'.hok nT1⟩
    · obtain ⟨m, ⟨o, _, _, ho, _⟩, _⟩ := I'.loc
      rw [← z, nT1] at ho; cases ho
    · obtain ⟨v, o, ho, _⟩ := I'.cell y c' ec
      rw [z, nT1] at ho; cases ho
    · have := (I'.pin q hq).1
      rw [z, nT1] at this; cases this
  have one : ∀ {Pr : Addr → Prop}, Pr T → ∀ b ∈ [T], Pr b := fun {Pr} a b hb => by rw [List.mem_singleton.mp hb]; exact a
  have turnT : ∀ {st : Shared} {k2 : Heap} {Hx : Hp} {σx : L2.St}, Inv X pins σx Hx st → Hx T = none → (∀ b, b ≠ T → k2.get? b = st.heap.get? b) → Inv X pins σx Hx { st with heap := k2 } := fun {st k2 Hx σx} J hT' oth =>
    inv_kpt (t' := st.toks) J (S := [T]) ⟨fun b o e nb _ => (oth b fun z => nb (by rw [z]; simp)).trans e, fun b o e nb _ => ⟨o.slots, (oth b fun z => nb (by rw [z]; simp)).trans e⟩⟩ (one neT.1) (one neT.2.1) (one neT.2.2.1) (one neT.2.2.2.1) (one hT')
  refine flight_set (to := none) x1 fun k2 x2 oth2 _ => ?_
  have J2 : Inv X pins σ H' { s1 with heap := k2 } := turnT (st := { s1 with heap := k1 }) J1 neT.2.2.2.2 oth2
  obtain ⟨bmC, xC⟩ := VEx.cls J2.kIn vC
  obtain ⟨bmD, xD⟩ := VEx.cls J2.kIn vD
  obtain ⟨vs2, ob2, _⟩ := x2.ob
  refine wpAny_handleBy_cons (codeAny_handlers_test (ld_glob (X := hand X ea) (inv_hand J2) hgc hmc ?_ hdc)) (fun z => by cases z)
  refine exc_hit (s := { s1 with heap := k2 }) xC xD ob2 rfl (hitF _ J2.kIn _ xC) ?_
  show codeAny _ _ _ _ _
  refine codeAny_handlers_suite_as ?_
  refine flight_set (s := { s1 with heap := k2 }) (to := none) x2 fun k3 x3 oth3 _ => ?_
  have J3 : Inv X pins σ H' { s1 with heap := k3 } := turnT (st := { s1 with heap := k2 }) J2 neT.2.2.2.2 oth3
  obtain ⟨vs3, ob3, _⟩ := x3.ob
  have ne1 := ne0 ea n1
  have J4 : Inv X pins σ (upd H' ea (excO ea C)) { s1 with heap := k3 } := inv_track J3 ne1.1 ne1.2.1 ne1.2.2.1 ne1.2.2.2 t1 (excO_ok ob3)
  refine store_ok (X := hand X ea) (inv_hand J4) hN hj (.inl hn) (show RelV (.ref ea) (.ref ea) from rfl) (fun s5 I5 => ?_) (.inr hn)
  refine wpAny_mono (hs ea pins s5 _ _ _ I5 (hand' ea t1)) (fun fl s6 q6 => ?_) fun _ _ z => False.elim z
  have hcls : (X.env.scope.kind == .class || (X.env.scope.kind == .module && X.env.locals != X.env.globals)) = false := by rw [I.ok.kind]; rfl
  have goes : ∀ {σ6 : L2.St} {H6 : Hp} {Qx : Shared → Prop}, Inv (hand X ea) pins σ6 H6 s6 → (∀ s7, Inv X pins (σ6.set j none) H6 s7 → Qx s7) → wpAny (model X.prog X.w) X.A (do bindName X.env n .none; unbindBehindTheSuite X.env n hp) (fun _ s7 => Qx s7) X.xe s6 := fun {σ6 H6 Qx} I6 hq => by
    have I7 : Inv X pins σ6 H6 s6 := inv_unhand I.ok I6
    obtain ⟨m, hns, hl⟩ := id I7.loc
    exact wpAny_nameGoes_keeps hn hns hcls fun h' v hn' hs' => hq _ (inv_unname I7 hN hj hns hl hn' hs')
  cases fl with
  | next =>
    obtain ⟨σ6, H6, I6, q⟩ := q6
    exact goes I6 fun s7 I7 => ⟨_, H6, I7, q⟩
  | brk =>
    obtain ⟨σ6, H6, I6, q⟩ := q6
    exact goes I6 fun s7 I7 => ⟨_, H6, I7, q⟩
  | cont =>
    obtain ⟨σ6, H6, I6, q⟩ := q6
    exact goes I6 fun s7 I7 => ⟨_, H6, I7, q⟩
  | ret u =>
    obtain ⟨v, σ6, H6, I6, r6, q⟩ := q6
    exact goes I6 fun s7 I7 => ⟨v, _, H6, I7, r6, q⟩
end
end L3

set_option Elab.async false
set_option linter.all false
set_option maxRecDepth 100000
set_option maxHeartbeats 4000000
/-! == of lists and tuples; isinstance of an exception; a loop over a text. -/
namespace L3
open PySem PySem.Spec PyProof.Rows L2

/-! ### a loop over a text -/
theorem for_str {z : Str} {g : TG} {tb : TS} {D : Ends} {σ : L2.St} {H : Hp} (Pv : Nat → L2.St → Hp → Prop) (h0 : Pv 0 σ H)
    (hs : ∀ i c σ H, z.cps.toList[i]? = some c → Pv i σ H → g (.str ⟨#[c]⟩) σ H fun σ2 H2 => tb { D with nx := Pv (i + 1), ct := Pv (i + 1), bk := D.nx } σ2 H2) (hd : ∀ σ H, Pv z.length σ H → D.nx σ H) :
    ∃ W : Nat → Nat → L2.St → Hp → Prop, (∃ m, W 0 m σ H) ∧ ∀ i m σ H, W i m σ H →
      ((Its z).stop i H ∧ D.nx σ H) ∨ ((Its z).go i H ∧ ∃ N : L2.St → Hp → Prop, (∀ σ' H', N σ' H' → ∃ m', m' < m ∧ W (i + 1) m' σ' H') ∧ ∀ x H', (Its z).yld i H x H' → g x σ H' fun σ2 H2 => tb { D with nx := N, ct := N, bk := D.nx } σ2 H2) := by
  refine ⟨fun i m σ H => m = z.length - i ∧ i ≤ z.length ∧ Pv i σ H, ⟨z.length, by simp, Nat.zero_le _, h0⟩, ?_⟩
  rintro i m σ H ⟨rfl, hi, p⟩
  by_cases hlt : i < z.length
  · refine .inr ⟨hlt, Pv (i + 1), fun σ' H' p' => ⟨z.length - (i + 1), by omega, rfl, hlt, p'⟩, fun x H' y => ?_⟩
    obtain ⟨e, c, hc, rfl⟩ := y
    subst e
    exact hs i c σ _ (by rw [Array.getElem?_toList]; exact hc) p
  · have e : i = z.length := by omega
    subst e
    exact .inl ⟨Nat.le_refl _, hd σ H p⟩

/-! ### == of sequences -/
def EqQ (K : PySem.W.Frag) (H : Hp) : Nat → V → V → Bool → Prop
  | 0, x, y, b => flatV x = true ∧ flatV y = true ∧ b = eqV x y
  | n + 1, x, y, b => EqQ K H n x y b ∨ ∃ (p r : Addr) (xs ys : List V) (e : Nat → Bool), x = .ref p ∧ y = .ref r ∧ ((SqL K H p xs ∧ SqL K H r ys) ∨ (SqT K H p xs ∧ SqT K H r ys)) ∧
      (∀ (i : Nat) (x y : V), xs[i]? = some x → ys[i]? = some y → EqQ K H n x y (e i)) ∧ b = (decide (xs.length = ys.length) && (List.range xs.length).all e)
def EqS (K : PySem.W.Frag) (H : Hp) (n : Nat) (x y : V) (b : Bool) : Prop := ∃ (p r : Addr) (xs ys : List V) (e : Nat → Bool), x = .ref p ∧ y = .ref r ∧ ((SqL K H p xs ∧ SqL K H r ys) ∨ (SqT K H p xs ∧ SqT K H r ys)) ∧
      (∀ (i : Nat) (x y : V), xs[i]? = some x → ys[i]? = some y → EqQ K H n x y (e i)) ∧ b = (decide (xs.length = ys.length) && (List.range xs.length).all e)
theorem EqS.q {K : PySem.W.Frag} {H : Hp} {n : Nat} {x y : V} {b : Bool} (h : EqS K H n x y b) : EqQ K H (n + 1) x y b := .inr h
theorem EqQ.flat {K : PySem.W.Frag} {H : Hp} {x y : V} (hx : flatV x = true) (hy : flatV y = true) : ∀ n, EqQ K H n x y (eqV x y)
  | 0 => ⟨hx, hy, rfl⟩
  | n + 1 => .inl (EqQ.flat hx hy n)
theorem eqV_self {x : V} (h : flatV x = true) : eqV x x = true := by
  cases x with
  | non => rfl
  | bl b => show (b == b) = true; simp
  | int b => show (b == b) = true; simp
  | str b => show (b == b) = true; simp
  | _ => exact absurd (show false = true from h) Bool.false_ne_true
theorem EqQ.self {K : PySem.W.Frag} {H : Hp} {x : V} (hx : flatV x = true) (n : Nat) : EqQ K H n x x true := by
  have := EqQ.flat (K := K) (H := H) hx hx n
  rw [eqV_self hx] at this; exact this
theorem all_true (n : Nat) : (List.range n).all (fun _ => true) = true := by simp
/-- two sequences of one length whose items are equal -/
theorem EqS.yes {K : PySem.W.Frag} {H : Hp} {n : Nat} {p r : Addr} {xs ys : List V} (h : (SqL K H p xs ∧ SqL K H r ys) ∨ (SqT K H p xs ∧ SqT K H r ys)) (hl : xs.length = ys.length) (he : ∀ (i : Nat) (x y : V), xs[i]? = some x → ys[i]? = some y → EqQ K H n x y true) : EqS K H n (.ref p) (.ref r) true :=
  ⟨p, r, xs, ys, fun _ => true, rfl, rfl, h, he, by rw [decide_eq_true hl, all_true]; rfl⟩
theorem EqS.same {K : PySem.W.Frag} {H : Hp} {p r : Addr} {xs : List V} (h : (SqL K H p xs ∧ SqL K H r xs) ∨ (SqT K H p xs ∧ SqT K H r xs)) (hf : xs.all flatV = true) : EqS K H 0 (.ref p) (.ref r) true :=
  EqS.yes h rfl fun i x y hx hy => by
    rw [hx] at hy; cases hy
    exact EqQ.self (List.all_eq_true.mp hf x (List.mem_of_getElem? hx)) 0
/-- two sequences of texts -/
theorem EqS.strs {K : PySem.W.Frag} {H : Hp} {p r : Addr} {xs ys : List Str} (h : (SqL K H p (xs.map V.str) ∧ SqL K H r (ys.map V.str)) ∨ (SqT K H p (xs.map V.str) ∧ SqT K H r (ys.map V.str))) : EqS K H 0 (.ref p) (.ref r) (decide (xs = ys)) := by
  refine ⟨p, r, _, _, fun i => decide (xs[i]? = ys[i]?), rfl, rfl, h, fun i x y hx hy => ?_, ?_⟩
  · rw [List.getElem?_map] at hx hy
    cases ex : xs[i]? with
    | none => rw [ex] at hx; cases hx
    | some a =>
      cases ey : ys[i]? with
      | none => rw [ey] at hy; cases hy
      | some b =>
        rw [ex] at hx; rw [ey] at hy
        cases hx; cases hy
        refine ⟨rfl, rfl, ?_⟩
        show _ = (a == b)
        rw [Bool.eq_iff_iff, decide_eq_true_eq, ex, ey]; simp
  · rw [List.length_map, List.length_map, Bool.eq_iff_iff, decide_eq_true_eq, Bool.and_eq_true, decide_eq_true_eq, List.all_eq_true]
    constructor
    · rintro rfl
      exact ⟨rfl, fun i _ => decide_eq_true rfl⟩
    · rintro ⟨hl, ha⟩
      refine List.ext_getElem? fun i => ?_
      by_cases hi : i < xs.length
      · exact of_decide_eq_true (ha i (List.mem_range.mpr hi))
      · rw [List.getElem?_eq_none (by omega), List.getElem?_eq_none (by omega)]
section
variable {X : Cx} {pins : List (Addr × Obj)} {σ : L2.St} {H : Hp} {s : Shared}
theorem eqq_self (I : Inv X pins σ H s) : ∀ {n : Nat} {x : V} {b : Bool}, EqQ X.K H n x x b → b = true
  | 0, x, b, h => by
    obtain ⟨h1, _, e⟩ := h
    rw [e]; exact eqV_self h1
  | n + 1, x, b, h => by
    rcases h with h | ⟨p, r, xs, ys, e, e1, e2, hq, he, rfl⟩
    · exact eqq_self I h
    · rw [e1] at e2; cases e2
      have exy : xs = ys := by
        rcases hq with ⟨a, c⟩ | ⟨a, c⟩
        · exact I.list_inj a c
        · exact I.tuple_inj a c
      subst exy
      rw [decide_eq_true rfl, Bool.true_and, List.all_eq_true]
      intro i hi
      have hlt := List.mem_range.mp hi
      exact eqq_self I (he i xs[i] xs[i] (List.getElem?_eq_getElem hlt) (List.getElem?_eq_getElem hlt))
theorem vals_at {xs : List V} {us : List Value} (r : Vals xs us) {j : Nat} (h : j < us.length) : ∃ x, xs[j]? = some x ∧ RelV x us[j] := by
  have hx : j < xs.length := by rw [r.length]; exact h
  obtain ⟨u, e, q⟩ := r.get (List.getElem?_eq_getElem hx)
  rw [List.getElem?_eq_getElem h] at e
  cases e
  exact ⟨_, List.getElem?_eq_getElem hx, q⟩
theorem rng_min {a b : Nat} {e : Nat → Bool} : ((List.range (min a b)).all e && a == b) = (decide (a = b) && (List.range a).all e) := by
  by_cases h : a = b
  · subst h; simp
  · simp [h]
/-- the comparison itself, once the items' are known -/
theorem eqs_rc {n : Nat} {A : Around} (I : Inv X pins σ H s) (hu : A.units + 1 < cLine) (ih : ∀ (x y : V) (b : Bool) (u v : Value), RelV x u → RelV y v → EqQ X.K H n x y b → SeqAt.EqAt A.in1 s u v b)
    {p r : Addr} {xs ys : List V} {e : Nat → Bool} (hq : (SqL X.K H p xs ∧ SqL X.K H r ys) ∨ (SqT X.K H p xs ∧ SqT X.K H r ys)) (he : ∀ (i : Nat) (x y : V), xs[i]? = some x → ys[i]? = some y → EqQ X.K H n x y (e i)) :
    SeqAt.RcAt A s (.ref p) (.ref r) (decide (xs.length = ys.length) && (List.range xs.length).all e) := by
  have hu' : A.units < cLine := by omega
  rcases hq with ⟨a, c⟩ | ⟨a, c⟩
  · obtain ⟨is, r1, p1, z1⟩ := I.list a
    obtain ⟨js, r2, p2, z2⟩ := I.list c
    have l1 := r1.length
    have l2 := r2.length
    by_cases hl : xs.length = ys.length
    · rw [decide_eq_true hl, Bool.true_and]
      have q := SeqAt.RcAt.lists (e := e) p1.isList p2.isList (by rw [List.size_toArray, List.size_toArray]; omega) hu' fun j h1 h2 => by
        rw [List.size_toArray] at h1 h2
        obtain ⟨x, ex, rx⟩ := vals_at r1 h1
        obtain ⟨y, ey, ry⟩ := vals_at r2 h2
        rw [List.getElem_toArray, List.getElem_toArray]
        exact ih x y _ _ _ rx ry (he j x y ex ey)
      rw [List.size_toArray, ← l1] at q
      exact q
    · rw [decide_eq_false hl, Bool.false_and]
      exact SeqAt.RcAt.lists_lengths p1.isList p2.isList (by rw [List.size_toArray, List.size_toArray]; simp; omega) hu'
  · obtain ⟨is, r1, p1, z1⟩ := I.tuple a
    obtain ⟨js, r2, p2, z2⟩ := I.tuple c
    have l1 := r1.length
    have l2 := r2.length
    have q := SeqAt.RcAt.tuples (e := e) p1 p2 hu' fun j h1 h2 => by
      rw [List.size_toArray] at h1 h2
      obtain ⟨x, ex, rx⟩ := vals_at r1 h1
      obtain ⟨y, ey, ry⟩ := vals_at r2 h2
      rw [List.getElem_toArray, List.getElem_toArray]
      exact ih x y _ _ _ rx ry (he j x y ex ey)
    rw [List.size_toArray, List.size_toArray, ← l1, ← l2, rng_min] at q
    exact q
theorem eqs_ne {n : Nat} {A : Around} (I : Inv X pins σ H s) (hu : A.units + 1 < cLine) (ih : ∀ (x y : V) (b : Bool) (u v : Value), RelV x u → RelV y v → EqQ X.K H n x y b → SeqAt.EqAt A.in1 s u v b)
    {p r : Addr} {xs ys : List V} {e : Nat → Bool} (hq : (SqL X.K H p xs ∧ SqL X.K H r ys) ∨ (SqT X.K H p xs ∧ SqT X.K H r ys)) (he : ∀ (i : Nat) (x y : V), xs[i]? = some x → ys[i]? = some y → EqQ X.K H n x y (e i)) :
    SeqAt.RcNeAt A s (.ref p) (.ref r) (!(decide (xs.length = ys.length) && (List.range xs.length).all e)) := by
  have hu' : A.units < cLine := by omega
  rcases hq with ⟨a, c⟩ | ⟨a, c⟩
  · obtain ⟨is, r1, p1, z1⟩ := I.list a
    obtain ⟨js, r2, p2, z2⟩ := I.list c
    have l1 := r1.length
    have l2 := r2.length
    by_cases hl : xs.length = ys.length
    · rw [decide_eq_true hl, Bool.true_and]
      have q := SeqAt.RcNeAt.lists (e := e) p1.isList p2.isList (by rw [List.size_toArray, List.size_toArray]; omega) hu' fun j h1 h2 => by
        rw [List.size_toArray] at h1 h2
        obtain ⟨x, ex, rx⟩ := vals_at r1 h1
        obtain ⟨y, ey, ry⟩ := vals_at r2 h2
        rw [List.getElem_toArray, List.getElem_toArray]
        exact ih x y _ _ _ rx ry (he j x y ex ey)
      rw [List.size_toArray, ← l1] at q
      exact q
    · rw [decide_eq_false hl, Bool.false_and]
      exact SeqAt.RcNeAt.lists_lengths p1.isList p2.isList (by rw [List.size_toArray, List.size_toArray]; simp; omega) hu'
  · obtain ⟨is, r1, p1, z1⟩ := I.tuple a
    obtain ⟨js, r2, p2, z2⟩ := I.tuple c
    have l1 := r1.length
    have l2 := r2.length
    have q := SeqAt.RcNeAt.tuples (e := e) p1 p2 hu' fun j h1 h2 => by
      rw [List.size_toArray] at h1 h2
      obtain ⟨x, ex, rx⟩ := vals_at r1 h1
      obtain ⟨y, ey, ry⟩ := vals_at r2 h2
      rw [List.getElem_toArray, List.getElem_toArray]
      exact ih x y _ _ _ rx ry (he j x y ex ey)
    rw [List.size_toArray, List.size_toArray, ← l1, ← l2, rng_min] at q
    exact q
theorem eqq_at (I : Inv X pins σ H s) : ∀ {n : Nat} {A : Around} {x y : V} {b : Bool} {u v : Value}, A.units + n < cLine → RelV x u → RelV y v → EqQ X.K H n x y b → SeqAt.EqAt A s u v b
  | 0, A, x, y, b, u, v, hu, rx, ry, h => by
    obtain ⟨h1, h2, e⟩ := h
    rw [e]; exact eqAt_V rx ry h1 h2
  | n + 1, A, x, y, b, u, v, hu, rx, ry, h => by
    rcases h with h | ⟨p, r, xs, ys, e, rfl, rfl, hq, he, hb⟩
    · exact eqq_at I (by omega) rx ry h
    · cases rx; cases ry
      by_cases hp : p = r
      · subst hp
        have := eqq_self I (n := n + 1) (.inr ⟨p, p, xs, ys, e, rfl, rfl, hq, he, hb⟩)
        rw [this]; exact SeqAt.EqAt.same _
      · rw [hb]
        exact SeqAt.EqAt.of_refs hp (eqs_rc I (by omega) (fun x y b u v rx ry q => eqq_at I (A := A.in1) (by show A.units + 1 + n < cLine; omega) rx ry q) hq he)
theorem op_eqS (hu : X.A.units + 64 < cLine) : OpR X (compareOp .Eq) (fun x y H Q => ∃ n b, n ≤ 20 ∧ EqS X.K H n x y b ∧ Q (.bl b) H) := by
  intro pins s σ H x y v u Q I rx ry h
  obtain ⟨n, b, hn, ⟨p, r, xs, ys, e, rfl, rfl, hq, he, rfl⟩, q⟩ := h
  cases rx; cases ry
  exact eqs_rc I (by omega) (fun x y b u v rx ry q => eqq_at I (A := X.A.in1) (by show X.A.units + 1 + n < cLine; omega) rx ry q) hq he _ _ _ _ ⟨.bl _, H, I, rfl, q⟩
theorem op_neS (hu : X.A.units + 64 < cLine) : OpR X (compareOp .NotEq) (fun x y H Q => ∃ n b, n ≤ 20 ∧ EqS X.K H n x y b ∧ Q (.bl (!b)) H) := by
  intro pins s σ H x y v u Q I rx ry h
  obtain ⟨n, b, hn, ⟨p, r, xs, ys, e, rfl, rfl, hq, he, rfl⟩, q⟩ := h
  cases rx; cases ry
  exact eqs_ne I (by omega) (fun x y b u v rx ry q => eqq_at I (A := X.A.in1) (by show X.A.units + 1 + n < cLine; omega) rx ry q) hq he _ _ _ _ ⟨.bl _, H, I, rfl, q⟩
end

end L3
namespace L3
open PySem PySem.Spec PyProof.Rows L2 PySem.W
/-! ### the class of an exception, asked by its name -/
theorem ga_kind : builtinKind "BaseException.__getattribute__" = some .slot := by decide +kernel
theorem ga_split : splitId "BaseException.__getattribute__" = some ("BaseException", "__getattribute__") := by decide +kernel
section
variable {M : Model} {A : Around} {E : Value → Shared → Prop} {s : Shared}
theorem ga_check {x : Addr} {nameV : Value} {Q : Unit → Shared → Prop} (L : PySem.W.Looks M s.heap (isInstance (.ref x) (.type "BaseException")) true) (hq : Q () s) : wpAny M A (checkBuiltinCall "BaseException.__getattribute__" ⟨[.ref x, nameV], []⟩) Q E s := by
  have ha := PySem.F.args_bexc_ga (.ref x) nameV
  simp only [checkBuiltinCall, ga_kind, ga_split]
  refine wpAny_bind (L.here ?_)
  simp only [Bool.not_true, Bool.false_eq_true, if_false]
  cases hsig : Manifest.signature? "BaseException.__getattribute__" with
  | none => exact wpAny_pure hq
  | some sig =>
    simp only [argsOk, hsig] at ha
    have h2 : Bind.checkArgs "BaseException.__getattribute__" sig ⟨[.ref x, nameV], []⟩ = pure () := ha
    show wpAny M A (Bind.checkArgs "BaseException.__getattribute__" sig ⟨[.ref x, nameV], []⟩) Q E s
    rw [h2]; exact wpAny_pure hq
end
section
variable {prog : Program} {w : World} {A : Around} {E : Value → Shared → Prop} {s : Shared} {K : PySem.W.Frag} {x D : Addr} {ox : Obj}
theorem exc_entry {tk : Tok} {Q : Fin → Shared → Prop} (hf : PySem.W.findObj K D none "__class__" = some (.bind (.builtin "getset_descriptor.__get__") (.builtin "object.__class__"))) (hm : PySem.W.mroIn K D (.type "object") = some true)
    (X : K.In s.heap) (I : PySem.W.InstAt s.heap x ox D none) (h : Q (.done (.ret (.ref D))) s) : wpAny (model prog w) A (Builtin.«object.__getattribute__» ⟨[.ref x, .str "__class__" tk], []⟩) Q E s := by
  have L0 := I.type (M := model prog w)
  have L1 := PySem.W.looks_find (M := model prog w) X I hf
  refine wpAny_bind (wpAny_pure (wpAny_bind (wpAny_pure (wpAny_bind (L0.here (wpAny_bind (L1.here ?_)))))))
  show wpAny _ _ (holding [.builtin "object.__class__"] (call (.builtin "getset_descriptor.__get__") [.builtin "object.__class__", .ref x, .ref D]) >>= ret) _ _ _
  exact wpAny_bind (wpAny_holding (wpAny_call (PySem.W.class_get (tp := .ref D) X I hm (wpAny_pure h))))
theorem exc_call {tk : Tok} {R : Result → Shared → Prop} (hb : PySem.W.mroIn K D (.type "BaseException") = some true)
    (hf : PySem.W.findObj K D none "__class__" = some (.bind (.builtin "getset_descriptor.__get__") (.builtin "object.__class__"))) (hm : PySem.W.mroIn K D (.type "object") = some true)
    (X : K.In s.heap) (I : PySem.W.InstAt s.heap x ox D none) (h : R (.ok (.ret (.ref D))) s) : codeAny (model prog w) A (.call (.builtin "BaseException.__getattribute__") ⟨[.ref x, .str "__class__" tk], []⟩) R s :=
  codeAny_call_builtin PySem.F.excAttr_ValueError.ga.plain PySem.F.entry_bexc_ga (ga_check (I.type.andThen (PySem.W.looks_mroIn X hb)) (exc_entry hf hm X I h))
theorem exc_own {tk : Tok} {Q : Value → Shared → Prop} (gh : PySem.W.findIn K (.ref D) "__getattr__" = some none) (hb : PySem.W.mroIn K D (.type "BaseException") = some true)
    (hf : PySem.W.findObj K D none "__class__" = some (.bind (.builtin "getset_descriptor.__get__") (.builtin "object.__class__"))) (hm : PySem.W.mroIn K D (.type "object") = some true)
    (X : K.In s.heap) (I : PySem.W.InstAt s.heap x ox D none) (h : Q (.ref D) s) : wpAny (model prog w) A (getAttrByItsOwn (.ref x) (.str "__class__" tk) (.ref D) (.builtin "BaseException.__getattribute__") false false) Q E s := by
  have L2 := PySem.W.looks_findIn (M := model prog w) X gh
  have f3 := PySem.F.excAttr_ValueError.ga.bind (.ref x)
  unfold getAttrByItsOwn
  refine wpAny_bind ?_
  show wpAny _ _ (typeLookup (.ref D) "__getattr__") _ _ _
  refine L2.here ?_
  refine wpAny_bind (wpAny_attempt (wpAny_holding ?_))
  show wpAny _ _ (boundAndCalled _ _ _) _ _ _
  unfold boundAndCalled
  rw [f3]
  refine wpAny_bind (wpAny_pure ?_)
  refine wpAny_call (exc_call hb hf hm X I ?_)
  refine PySem.W.handed_on rfl ?_
  exact h
theorem exc_class {Q : Option Value → Shared → Prop} (ga : PySem.W.findIn K (.ref D) "__getattribute__" = some (some (.builtin "BaseException.__getattribute__"))) (gh : PySem.W.findIn K (.ref D) "__getattr__" = some none) (hb : PySem.W.mroIn K D (.type "BaseException") = some true)
    (hf : PySem.W.findObj K D none "__class__" = some (.bind (.builtin "getset_descriptor.__get__") (.builtin "object.__class__"))) (hm : PySem.W.mroIn K D (.type "object") = some true)
    (X : K.In s.heap) (I : PySem.W.InstAt s.heap x ox D none) (h : Q (some (.ref D)) { s with toks := s.toks + 1 }) : wpAny (model prog w) A (getAttr? (.ref x) "__class__") Q E s := by
  obtain ⟨hh, g, d, t, os⟩ := s
  have L0 := I.type (M := model prog w)
  have L1 := PySem.W.looks_findIn (M := model prog w) X ga
  have hx2 : (Value.builtin "BaseException.__getattribute__" == Value.builtin "object.__getattribute__") = false := by decide +kernel
  have hx1 : (onTheHeap (Value.ref D) && Value.builtin "BaseException.__getattribute__" == Value.builtin "object.__getattribute__") = false := by rw [hx2]; rfl
  unfold getAttr? getAttrBy? getAttrBy
  refine wpAny_bind (wpAny_mkText (wpAny_bind (wpAny_attempt (wpAny_holding (wpAny_bind (L0.at (wpAny_bind (L1.at ?_))))))))
  dsimp only
  rw [hx1]
  rw [if_neg Bool.false_ne_true]
  exact exc_own (s := ⟨hh, g, d, t + 1, os⟩) gh hb hf hm X I (wpAny_pure h)
end
end L3
namespace L3
open PySem PySem.Spec PyProof.Rows L2
/-! ### isinstance of an exception -/
structure Exk (K : PySem.W.Frag) (D : Addr) : Prop where
  vx : VEx K D
  ga : PySem.W.findIn K (.ref D) "__getattribute__" = some (some (.builtin "BaseException.__getattribute__"))
  gh : PySem.W.findIn K (.ref D) "__getattr__" = some none
  fnd : PySem.W.findIn K (.ref D) "__class__" = some (some (.builtin "object.__class__"))
  spc : PySem.W.specialIn K (.builtin "object.__class__") "__get__" = some (some (.builtin "getset_descriptor.__get__"))
  tks : PySem.W.takesIn K (.builtin "object.__class__") = some true
  mro : PySem.W.mroIn K D (.type "object") = some true
  bex : PySem.W.mroIn K D (.type "BaseException") = some true
theorem mro_cls {K : PySem.W.Frag} {D : Addr} {b : Value} {r : Bool} (h : PySem.W.mroIn K D b = some r) : (PySem.W.clsIn K D).isSome = true := by
  unfold PySem.W.mroIn at h
  cases e : PySem.W.clsIn K D with
  | none => rw [e] at h; cases h
  | some _ => rfl
open PySem.W in
theorem kitx_exc {K : PySem.W.Frag} {x D : Addr} (k : Exk K D) : PySem.W.KitX K (.ref x) (.ref D) (fun h => ∃ vs, h.get? x = some { cls := .ref D, data := .fields vs }) where
  ty := fun M h _ p => by
    obtain ⟨vs, e⟩ := p
    have I : PySem.W.InstAt h x { cls := .ref D, data := .fields vs } D none := ⟨e, rfl, rfl, trivial⟩
    exact I.type
  it := fun _ _ X _ => by
    have hcD := mro_cls k.mro
    unfold PySem.W.clsIn at hcD
    split at hcD
    · rename_i c' d' cd' sl' ho
      intro A' Q' E' s' k q
      unfold isType loadHead
      exact wpAny_bind (wpAny_loadPart (k _ _ (X _ _ ho)) (wpAny_pure q))
    · cases hcD
  ne := fun h tp dd its n sl X htp => by
    have hcD := mro_cls k.mro
    refine Bool.eq_false_iff.mpr fun q => ?_
    have e : D = tp := Value.ref.inj (beq_iff_eq.mp q)
    subst e
    unfold PySem.W.clsIn at hcD
    split at hcD
    · rename_i c' d' cd' sl' ho
      have z := (X _ _ ho).symm.trans htp
      cases z
    · cases hcD
  ca := fun {prog w A E Q s} X p h => by
    obtain ⟨vs, e⟩ := p
    have I : PySem.W.InstAt s.heap x { cls := .ref D, data := .fields vs } D none := ⟨e, rfl, rfl, trivial⟩
    have hf : PySem.W.findObj K D none "__class__" = some (.bind (.builtin "getset_descriptor.__get__") (.builtin "object.__class__")) := by
      obtain ⟨cd, hc⟩ := Option.isSome_iff_exists.mp (mro_cls k.mro)
      unfold PySem.W.findObj
      rw [hc, Option.bind_some, k.fnd, Option.bind_some]
      simp [k.spc, k.tks]
    exact exc_class k.ga k.gh k.bex hf k.mro X I h
section
variable {X : Cx}
/-- one class -/
theorem call_isx {K : PySem.W.Frag} (hK : X.K = K) : CallR X (.builtin "isinstance") (fun xs H Q => ∃ ea C b, (∃ D, xs = [.ref ea, .ref D] ∧ PySem.W.kitOne K (.ref C) (.ref D) = some b ∨ ∃ n, xs = [.ref ea, .ty n] ∧ PySem.W.kitOne K (.ref C) (.type n) = some b) ∧ H ea = some (excO ea C) ∧ Exk K C ∧ Q (.bl b) H) := by
  subst hK
  intro pins s σ H xs us Q I r h
  obtain ⟨ea, C, b, hx, he, kx, q⟩ := h
  have p : ∃ vs, s.heap.get? ea = some { cls := .ref C, data := .fields vs } := (show ObjOk X.prog X.w H s.heap ea (excO ea C) from I.hok ea _ he).1
  obtain ⟨D, hx⟩ := hx
  rcases hx with ⟨rfl, e⟩ | ⟨n, rfl, e⟩
  · obtain ⟨u, u2, rfl, r1, r2⟩ := r.two
    cases r1; cases r2
    exact PySem.W.kia_one (kitx_exc kx) I.kIn p e (fun z => nomatch z) fun tk => ⟨.bl b, H, I.tok _, rfl, q⟩
  · obtain ⟨u, u2, rfl, r1, r2⟩ := r.two
    cases r1; cases r2
    exact PySem.W.kia_one (kitx_exc kx) I.kIn p e (fun z => nomatch z) fun tk => ⟨.bl b, H, I.tok _, rfl, q⟩
/-- a tuple of classes -/
theorem call_isxT {K : PySem.W.Frag} (hK : X.K = K) : CallR X (.builtin "isinstance") (fun xs H Q => ∃ (ea C : Addr) (b : Bool) (tp : Addr) (ds : List Addr), xs = [.ref ea, .ref tp] ∧ H tp = some (.tup (ds.map V.ref)) ∧ PySem.W.kitAny K (.ref C) (ds.map Value.ref) = some b ∧ H ea = some (excO ea C) ∧ Exk K C ∧ Q (.bl b) H) := by
  subst hK
  intro pins s σ H xs us Q I r h
  obtain ⟨ea, C, b, tp, ds, rfl, ht, e, he, kx, q⟩ := h
  have p : ∃ vs, s.heap.get? ea = some { cls := .ref C, data := .fields vs } := (show ObjOk X.prog X.w H s.heap ea (excO ea C) from I.hok ea _ he).1
  obtain ⟨u, u2, rfl, r1, r2⟩ := r.two
  cases r1; cases r2
  obtain ⟨hz, its, rv, ⟨o, h1, h2, n, h3⟩⟩ := (show ObjOk X.prog X.w H s.heap tp (.tup (ds.map V.ref)) from I.hok tp _ ht)
  have ei : its = ds.map Value.ref := by
    clear e ht h3 hz
    induction ds generalizing its with
    | nil => cases rv; rfl
    | cons d ds ih =>
      cases rv with
      | cons a b =>
        cases a
        rw [ih _ b]; rfl
  obtain ⟨c, dd, dt, sl⟩ := o
  dsimp only at h2 h3
  subst h2 h3
  rw [ei] at h1
  exact PySem.W.kia_tup (kitx_exc kx) I.kIn p h1 e (fun z => nomatch z) fun tk => ⟨.bl b, H, I.tok _, rfl, q⟩
end
/-! ### rules for a context that is not known (a block's, a handler's): the module's part is -/
section
variable {X : Cx} {K : PySem.W.Frag}
theorem call_isiK (hK : X.K = K) : CallR X (.builtin "isinstance") (fun xs H Q => ∃ x n t b, xs = [x, .ty n] ∧ TyOf K H x t ∧ PySem.W.kitOne K t (.type n) = some b ∧ Q (.bl b) H) := by subst hK; exact call_isi
theorem ix_listK (hK : X.K = K) : IxR X (rIxL K) := by subst hK; exact ix_list
theorem ix_tupK (hK : X.K = K) : IxR X (rIxT K) := by subst hK; exact ix_tup
theorem call_len_seqK (hK : X.K = K) : CallR X (.builtin "len") (fun xs H Q => ∃ p ys, xs = [.ref p] ∧ (SqL K H p ys ∨ SqT K H p ys) ∧ Q (.int ys.length) H) := by subst hK; exact call_len_seq
end
/-- who is caught by whom -/
theorem Hits.of {K : PySem.W.Frag} {C D : Addr} (vC : VEx K C) (vD : VEx K D) (m : PySem.W.mroIn K C (.ref D) = some true) : Hits K C D := by
  refine ⟨vC, vD, fun h X bm xc => ?_⟩
  obtain ⟨⟨nm, q, N, bs, hd, sn, sub, ab, col, dd, k0, k1, k2, k3, k5, ni, hC⟩, _⟩ := xc
  unfold PySem.W.mroIn PySem.W.clsIn at m
  split at m
  · rename_i c' d' cd' sl' ho
    have z := (X _ _ ho).symm.trans hC
    cases z
    dsimp only [Option.bind_some] at m
    split at m
    · cases m
    · exact Option.some.inj m
  · cases m
end L3

set_option Elab.async false
set_option linter.all false
set_option maxRecDepth 100000
set_option maxHeartbeats 4000000
/-! THE MATHEMATICS of texts of words, as they are cut. -/
namespace Vm
open PySem PySem.Spec PyProof.Rows L2 L3
def mkS (l : List Nat) : Str := ⟨l.toArray⟩
theorem mkS_list (l : List Nat) : (mkS l).cps.toList = l := mk_list l
theorem mkS_len (l : List Nat) : (mkS l).length = l.length := mk_len l
def glue (cur : List Nat) : List (List Nat) → List (List Nat)
  | [] => [cur]
  | h :: t => (cur ++ h) :: t
theorem glue_none (cur : List Nat) : glue cur (splitL 32 []) = [cur] := by
  show [cur ++ []] = _
  rw [List.append_nil]
theorem glue_blank (cur r : List Nat) : glue cur (splitL 32 (32 :: r)) = cur :: glue [] (splitL 32 r) := by
  have e : splitL 32 (32 :: r) = [] :: splitL 32 r := by
    conv => lhs; unfold splitL
    rw [if_pos rfl]
  rw [e]
  show (cur ++ []) :: splitL 32 r = _
  rw [List.append_nil]
  cases h : splitL 32 r with
  | nil => exact absurd h (splitL_ne 32 r)
  | cons a b => rfl
theorem glue_sign {x : Nat} (hx : x ≠ 32) (cur r : List Nat) : glue cur (splitL 32 (x :: r)) = glue (cur ++ [x]) (splitL 32 r) := by
  conv => lhs; unfold splitL
  rw [if_neg hx]
  cases h : splitL 32 r with
  | nil => exact absurd h (splitL_ne 32 r)
  | cons a b =>
    show (cur ++ x :: a) :: b = ((cur ++ [x]) ++ a) :: b
    simp
theorem glue_empty (r : List Nat) : glue [] (splitL 32 r) = splitL 32 r := by
  cases h : splitL 32 r with
  | nil => exact absurd h (splitL_ne 32 r)
  | cons a b => rfl
theorem splitL_small (c : Nat) : ∀ l : List Nat, (splitL c l).length ≤ l.length + 1 ∧ ∀ m ∈ splitL c l, m.length ≤ l.length
  | [] => ⟨by show 1 ≤ 1; omega, fun m hm => by
      rw [List.mem_singleton.mp (show m ∈ [[]] from hm)]; exact Nat.le_refl _⟩
  | x :: r => by
    have ih := splitL_small c r
    unfold splitL
    by_cases h : x = c
    · rw [if_pos h]
      refine ⟨by rw [List.length_cons, List.length_cons]; omega, fun m hm => ?_⟩
      rcases List.mem_cons.mp hm with rfl | hm
      · exact Nat.zero_le _
      · have := ih.2 m hm; rw [List.length_cons]; omega
    · rw [if_neg h]
      cases e : splitL c r with
      | nil => exact absurd e (splitL_ne c r)
      | cons a b =>
        rw [e] at ih
        refine ⟨by have := ih.1; rw [List.length_cons] at this ⊢; rw [List.length_cons]; omega, fun m hm => ?_⟩
        rcases List.mem_cons.mp hm with rfl | hm
        · have := ih.2 a List.mem_cons_self
          rw [List.length_cons, List.length_cons]; omega
        · have := ih.2 m (List.mem_cons_of_mem _ hm); rw [List.length_cons]; omega
/-- the stretches between blanks -/
def rowsOf (z : Str) : List Str := (splitL 32 z.cps.toList).map mkS
theorem rowsOf_len (z : Str) : (rowsOf z).length ≤ z.length + 1 := by
  unfold rowsOf
  rw [List.length_map, ← clen]
  exact (splitL_small 32 _).1
theorem rowsOf_mem {z m : Str} (h : m ∈ rowsOf z) : m.length ≤ z.length := by
  obtain ⟨l, hl, rfl⟩ := List.mem_map.mp h
  rw [mkS_len, ← clen z]
  exact (splitL_small 32 _).2 l hl
/-- the row that a text writes -/
def dueOf (z : Str) : Option (List Str) := if z = Str.ofString "" then some [] else if ((rowsOf z).all wordB && decide ((rowsOf z).length ≤ 40)) = true then some (rowsOf z) else none
theorem split_rows (z : Str) : Txt.split z ⟨#[32]⟩ = rowsOf z := split_eq z 32
/-- a cut of a list of ints -/
theorem cut_any (ns : List Int) (lo hi : Option Int) : ∃ ms : List Int, cutV (ns.map V.int) lo hi = ms.map V.int ∧ ms.length ≤ ns.length ∧ ∀ m ∈ ms, m ∈ ns := by
  unfold cutV
  refine ⟨(ns.drop (HT.sIx (ns.map V.int).length 0 lo)).take (HT.sIx (ns.map V.int).length (ns.map V.int).length hi - HT.sIx (ns.map V.int).length 0 lo), ?_, ?_, fun m hm => List.mem_of_mem_drop (List.mem_of_mem_take hm)⟩
  · rw [List.map_take, List.map_drop]
  · rw [List.length_take, List.length_drop]; omega
theorem ixN_last (n : Nat) : ixN (n + 1) (-1) = some n := by
  unfold ixN
  rw [if_neg (by omega), if_pos (by omega)]
  congr 1
  omega
theorem set_last {α : Type} (xs : List α) (a b : α) : (xs ++ [a]).set xs.length b = xs ++ [b] := by simp
end Vm

set_option Elab.async false
set_option linter.all false
set_option maxRecDepth 100000
set_option maxHeartbeats 4000000
/-! NUMBERS as texts. -/
namespace L3
open PySem PySem.Spec PyProof.Rows L2
section
variable {X : Cx}
theorem call_int_text : CallR X (.type "int") (fun xs H Q => ∃ (z : Str) (n : Int), xs = [.str z] ∧ PySem.intText? z = some n ∧ z.length ≤ 640 ∧ Q (.int n) H) := by
  intro pins s σ H xs us Q I r h
  obtain ⟨z, n, rfl, hn, hl, q⟩ := h
  obtain ⟨u, rfl, t, rfl⟩ := vals1 r
  exact PySem.W.KIN.call_text hn hl ⟨.int n, H, I.tok _, ⟨_, rfl⟩, q⟩
theorem op_mul_str : OpR X (binaryOp .Mult) (fun x y H Q => ∃ (z : Str) (n : Int), x = .str z ∧ y = .int n ∧ MulOk z n ∧ Q (.str (Txt.mul z n)) H) := by
  intro pins s σ H x y v u Q I rx ry h
  obtain ⟨z, n, rfl, rfl, ok, q⟩ := h
  obtain ⟨t, rfl⟩ := rx
  obtain ⟨t', rfl⟩ := ry
  exact SB.mul ok fun t' k => ⟨.str _, H, I.tok _, ⟨_, rfl⟩, q⟩
end
end L3
namespace Vm
open PySem PySem.Spec PyProof.Rows L2 L3 PySem.NumText
def figures : Str := "0123456789"
theorem figures_cps : figures.cps.toList = (List.range 10).map (48 + ·) := by decide +kernel
theorem mem_figures {c : Nat} : c ∈ figures.cps.toList ↔ 48 ≤ c ∧ c ≤ 57 := by
  rw [figures_cps, List.mem_map]
  constructor
  · rintro ⟨i, hi, rfl⟩
    have := List.mem_range.mp hi
    omega
  · intro h
    exact ⟨c - 48, List.mem_range.mpr (by omega), by omega⟩
/-! ### what figures are worth -/
theorem fold_low : ∀ (l : List Nat) (acc : Nat), acc * 10 ^ l.length ≤ l.foldl (fun acc c => acc * 10 + (c - 48)) acc
  | [], acc => by simp
  | c :: r, acc => by
    rw [List.foldl_cons, List.length_cons]
    refine Nat.le_trans ?_ (fold_low r _)
    rw [Nat.pow_succ, Nat.mul_comm (10 ^ r.length) 10, ← Nat.mul_assoc]
    exact Nat.mul_le_mul_right _ (by omega)
theorem fold_high : ∀ (l : List Nat) (acc : Nat), (∀ c ∈ l, 48 ≤ c ∧ c ≤ 57) → l.foldl (fun acc c => acc * 10 + (c - 48)) acc < (acc + 1) * 10 ^ l.length
  | [], acc, _ => by simp
  | c :: r, acc, h => by
    rw [List.foldl_cons, List.length_cons]
    refine Nat.lt_of_lt_of_le (fold_high r _ fun d hd => h d (List.mem_cons_of_mem _ hd)) ?_
    rw [Nat.pow_succ, Nat.mul_comm (10 ^ r.length) 10, ← Nat.mul_assoc]
    have := h c List.mem_cons_self
    exact Nat.mul_le_mul_right _ (by omega)
theorem val_low {c : Nat} {r : List Nat} (h : 48 < c) : 10 ^ r.length ≤ digitsVal (c :: r) := by
  unfold digitsVal
  rw [List.foldl_cons]
  refine Nat.le_trans ?_ (fold_low r _)
  calc 10 ^ r.length = 1 * 10 ^ r.length := (Nat.one_mul _).symm
    _ ≤ _ := Nat.mul_le_mul_right _ (by omega)
theorem val_high {l : List Nat} (h : ∀ c ∈ l, 48 ≤ c ∧ c ≤ 57) : digitsVal l < 10 ^ l.length := by
  have := fold_high l 0 h
  unfold digitsVal
  omega
/-! ### the text of a number -/
def numS (n : Int) : Str := Str.ofString (toString n)
theorem numS_list (m : Nat) : (numS (m : Int)).cps.toList = (Nat.toDigits 10 m).map Char.toNat := PySem.W.KIN.signs_num m
theorem numS_digits (m : Nat) : ∀ c ∈ (numS (m : Int)).cps.toList, 48 ≤ c ∧ c ≤ 57 := by
  intro c hc
  rw [numS_list] at hc
  obtain ⟨ch, hch, e⟩ := List.mem_map.mp hc
  rw [← e]
  exact digit_range (Nat.isDigit_of_mem_toDigits (by decide) (by decide) hch)
theorem numS_lt (m : Nat) : m < 10 ^ (numS (m : Int)).length := by
  have h := val_high (numS_digits m)
  rw [numS_list, PySem.W.KIN.val_back, ← numS_list, clen] at h
  exact h
theorem digits_le : ∀ (k m : Nat), m < 10 ^ (k + 1) → (Nat.toDigits 10 m).length ≤ k + 1
  | 0, m, h => by
    rw [Nat.toDigits_of_lt_base (by omega)]
    exact Nat.le_refl _
  | k + 1, m, h => by
    by_cases h9 : m < 10
    · rw [Nat.toDigits_of_lt_base h9]
      exact Nat.succ_le_succ (Nat.zero_le _)
    · have hm : m % 10 < 10 := Nat.mod_lt m (by decide)
      have t : Nat.toDigits 10 (m / 10) ++ Nat.toDigits 10 (m % 10) = Nat.toDigits 10 (10 * (m / 10) + m % 10) := Nat.toDigits_append_toDigits (by decide) (by omega) hm
      rw [Nat.div_add_mod] at t
      rw [← t, List.length_append, Nat.toDigits_of_lt_base hm]
      have h2 : m / 10 < 10 ^ (k + 1) := by
        rw [Nat.pow_succ] at h
        exact Nat.div_lt_of_lt_mul (by omega)
      have := digits_le k (m / 10) h2
      show _ + 1 ≤ _
      omega
theorem numS_len {n : Int} (h0 : 0 ≤ n) (h1 : n < 10 ^ 40) : (numS n).length ≤ 40 := by
  obtain ⟨m, rfl⟩ := Int.eq_ofNat_of_zero_le h0
  rw [← clen, numS_list, List.length_map]
  exact digits_le 39 m (by exact_mod_cast h1)
theorem numS_pos (n : Int) (h0 : 0 ≤ n) : 1 ≤ (numS n).length := by
  obtain ⟨m, rfl⟩ := Int.eq_ofNat_of_zero_le h0
  rw [← clen, numS_list, List.length_map]
  exact toDigits_len_ge 10 m
theorem log_ok {n : Int} (h0 : 0 ≤ n) (h1 : n < 10 ^ 40) : n.natAbs.log2 < 1920 := by
  obtain ⟨m, rfl⟩ := Int.eq_ofNat_of_zero_le h0
  rw [Int.natAbs_natCast]
  by_cases hm : m = 0
  · subst hm; decide
  · rw [Nat.log2_lt hm]
    refine Nat.lt_of_lt_of_le (by exact_mod_cast h1 : m < 10 ^ 40) ?_
    refine Nat.le_trans (show 10 ^ 40 ≤ 2 ^ 160 by decide) (Nat.pow_le_pow_right (by decide) (by decide))
/-! ### texts that write a number -/
def writesB (z : Str) : Bool := if z = Str.ofString "" then false else if onlyB z figures = true then decide (z = Str.ofString "0") || !decide (z.cps.toList[0]? = some 48) else false
def pnum (z : Str) (most : Int) : Option Int := if writesB z = true then (if ((digitsVal z.cps.toList : Nat) : Int) ≤ most then some ((digitsVal z.cps.toList : Nat) : Int) else none) else none
theorem only_digits {z : Str} (h : onlyB z figures = true) : ∀ c ∈ z.cps.toList, 48 ≤ c ∧ c ≤ 57 := by
  unfold onlyB at h
  rw [List.all_eq_true] at h
  exact fun c hc => mem_figures.mp (of_decide_eq_true (h c hc))
theorem ne_nil {z : Str} (h : z ≠ Str.ofString "") : z.cps.toList ≠ [] := fun e => h (by
  have e2 : (Str.ofString "").cps.toList = [] := by decide +kernel
  rw [← str_mk z, ← str_mk (Str.ofString ""), e, e2])
theorem digits_read {z : Str} (h : onlyB z figures = true) (hne : z ≠ Str.ofString "") (hl : z.length ≤ 640) : PySem.intText? z = some ((digitsVal z.cps.toList : Nat) : Int) :=
  intText_digits (only_digits h) (ne_nil hne) (by omega)
theorem writes_low {z : Str} (h : writesB z = true) (h2 : 2 ≤ z.length) : 10 ^ (z.length - 1) ≤ digitsVal z.cps.toList := by
  unfold writesB at h
  by_cases h0 : z = Str.ofString ""
  · rw [if_pos h0] at h; cases h
  rw [if_neg h0] at h
  by_cases h1 : onlyB z figures = true
  · rw [if_pos h1] at h
    have hd := only_digits h1
    have hz := clen z
    rcases Bool.or_eq_true_iff.mp h with h | h
    · have e := of_decide_eq_true h
      rw [e] at h2
      exact absurd h2 (by decide +kernel)
    · cases hl : z.cps.toList with
      | nil => exact absurd hl (ne_nil h0)
      | cons c r =>
        rw [hl] at h hd hz
        have hc : c ≠ 48 := fun e => by rw [e] at h; simp at h
        have := hd c List.mem_cons_self
        rw [← hz, List.length_cons, Nat.add_sub_cancel]
        exact val_low (by omega)
  · rw [if_neg h1] at h; cases h
/-- a text that is longer than a greatest number's is none, or greater -/
theorem pnum_long {z : Str} {most : Int} {k : Nat} (hk : most < 10 ^ k) (h1 : 1 ≤ k) (hl : k < z.length) : pnum z most = none := by
  unfold pnum
  by_cases h : writesB z = true
  · rw [if_pos h, if_neg ?_]
    have := writes_low h (by omega)
    have h3 : 10 ^ k ≤ 10 ^ (z.length - 1) := Nat.pow_le_pow_right (by decide) (by omega)
    have h4 : (10 : Int) ^ k ≤ ((digitsVal z.cps.toList : Nat) : Int) := by exact_mod_cast Nat.le_trans h3 this
    omega
  · rw [if_neg h]
theorem most_lt {most : Int} (h0 : 0 ≤ most) : most < 10 ^ (numS most).length := by
  obtain ⟨m, rfl⟩ := Int.eq_ofNat_of_zero_le h0
  exact_mod_cast numS_lt m
def optV : Option Int → V
  | none => .non
  | some i => .int i
theorem optV_flat (o : Option Int) : flatV (optV o) = true := by cases o <;> rfl
theorem eqV_opt (o : Option Int) : eqV (optV o) .non = o.isNone := by cases o <;> rfl
end Vm

set_option Elab.async false
set_option linter.all false
set_option maxRecDepth 100000
set_option maxHeartbeats 4000000
/-! TUPLES cut and laid behind lists; THE MATHEMATICS of steps. -/
namespace HT
open PySem PySem.Spec PyProof.Rows
section
variable {prog : Program} {w : World} {A : Around} {E : Value → Shared → Prop} {s : Shared}
/-- t[lo:hi], the whole: t itself -/
theorem cut_whole {t sl : Addr} {items : Array Value} {vl vu : Value} {lo hi : Option Int} {Q : Value → Shared → Prop} (ht : IsTup s.heap t items) (hs : s.heap.IsSliceOf sl vl vu .none) (pl : IsPart vl lo) (pu : IsPart vu hi)
    (hw : sIx items.size 0 lo = 0 ∧ sIx items.size items.size hi = items.size) (h : Q (.ref t) s) : wpAny (model prog w) A (getItem (.ref t) (.ref sl)) Q E s := by
  obtain ⟨os, hos, hcs, hds⟩ := id hs
  have hTs : s.TypeIs (.ref sl) "slice" := ⟨os, hos, hcs⟩
  unfold getItem
  try with_reducible refine wpAny_holding ?_
  first | refine wpAny_bind (wpAny_pure ?_) | skip
  refine wpAny_bind (wpAny_sequenceKey ht.typeIs (by decide) ?_)
  refine wpAny_bind (wpAny_callSpecial?_slot (name := Str.ofString "__getitem__") ht.typeIs PyProof.Rows.slot_tuple_getitem
    (wpAny_call_entry PyProof.Rows.slot_tuple_getitem ht.typeIs entry_tuple_getitem ?_ (args_tuple_getitem _ _)))
  show wpAny _ _ (Builtin.Tuple.tupleItemsOf (.ref t) >>= _) _ _ s
  refine wpAny_bind (tupleItemsOf_ ht ?_)
  refine wpAny_bind (wpAny_typeOf hTs ?_)
  rw [if_pos (by decide)]
  refine wpAny_bind (sliceApplied_gen hs pl pu ?_)
  have hyes : (((sIx items.size 0 lo : Nat) : Int) == 0 && (1 : Int) == 1 && (sIx items.size items.size hi - sIx items.size 0 lo) == items.size) = true := by
    rw [hw.1, hw.2]; simp
  show wpAny _ _ (if (((sIx items.size 0 lo : Nat) : Int) == 0 && (1 : Int) == 1 && (sIx items.size items.size hi - sIx items.size 0 lo) == items.size) = true then _ else _) _ _ s
  rw [if_pos hyes]
  unfold Builtin.Tuple.tupleIsExact
  refine wpAny_bind (wpAny_bind (wpAny_typeOf ht.typeIs (wpAny_pure ?_)))
  rw [if_pos (by decide)]
  first
    | exact wpAny_bind (wpAny_rule (wpAny_pure ⟨_, rfl, wpAny_pure h⟩))
    | exact wpAny_bind (wpAny_rule (wpAny_bind (wpAny_pure (wpAny_pure ⟨_, rfl, wpAny_pure h⟩))))
    | exact wpAny_bind (wpAny_bind (wpAny_rule (wpAny_pure (wpAny_pure ⟨_, rfl, wpAny_pure h⟩))))
end
end HT
namespace L3
open PySem PySem.Spec PyProof.Rows L2
section
variable {X : Cx}
def rSlTA (K : PySem.W.Frag) : V → Option Int → Option Int → Hp → VK → Prop := fun x lo hi H Q => ∃ (a : Addr) (xs : List V), x = .ref a ∧ SqT K H a xs ∧
  ((HT.sIx xs.length 0 lo = 0 ∧ HT.sIx xs.length xs.length hi = xs.length) → Q (.ref a) H) ∧ (¬ (HT.sIx xs.length 0 lo = 0 ∧ HT.sIx xs.length xs.length hi = xs.length) → ∀ p, H p = none → Q (.ref p) (upd H p (.tup (cutV xs lo hi))))
theorem sl_tupA : SlR X (rSlTA X.K) := by
  intro pins s σ H x v vl vu lo hi sl Q I rx hs pl pu h
  obtain ⟨a, xs, rfl, hx, q1, q2⟩ := h
  by_cases hw : HT.sIx xs.length 0 lo = 0 ∧ HT.sIx xs.length xs.length hi = xs.length
  · cases rx
    obtain ⟨its, r, ht, hz⟩ := I.tuple hx
    have hlen : its.toArray.size = xs.length := by rw [List.size_toArray]; exact r.length.symm
    refine ⟨"tuple", _, PyProof.Rows.slot_tuple_getitem.lookup, ht.typeIs, ?_⟩
    exact HT.cut_whole ht hs pl pu (by rw [hlen]; exact hw) ⟨.ref a, H, I, rfl, q1 hw⟩
  · exact sl_tup pins s σ H _ v vl vu lo hi sl Q I rx hs pl pu ⟨a, xs, rfl, hx, hw, q2 hw⟩
/-- list.extend(tuple) -/
theorem extend_tup (l b : Addr) (its its2 : Array Value) (n n2 : Nat) (d2 : Option Addr) (sl2 : Array (Option Value)) (h0 : ¬ (!its.isEmpty && Builtin.List.listTooLong (its.size + its2.size)) = true) (h1 : its.size ≤ sizeLine) (h2 : its.size + its2.size ≤ sizeLine + 1) :
    Meets (Builtin.«list.extend» ⟨[.ref l, .ref b], []⟩) (fun _ R s => (s.heap.get? l = some { cls := .type "list", data := .seq its n } ∧ s.heap.get? b = some ⟨.type "tuple", d2, .seq its2 n2, sl2⟩) ∧ R (.ok (.ret Value.none)) { s with heap := s.heap.update l (Obj.mapSeq fun x => x ++ its2) }) :=
  .of_wp fun prog w A R s h => by
    obtain ⟨hp, g, d, tk, os⟩ := s
    obtain ⟨⟨hl, hb⟩, h⟩ := h
    have e1 := AutoSeq1.idx_int
    have e2 := AutoSeq1.sub_tuple_tuple
    have e3 := AutoSeq1.sub_list_list
    have e4 := AutoSeq1.sub_tuple_list
    have e5 := AutoSeq1.sub_list_tuple
    have hz : (its ++ its2).size ≤ sizeLine + 1 := by rw [Array.size_append]; exact h2
    wp_walk using (wpAny_updateSeq hl rfl (hz := h1) (_hz' := hz)), AutoSeq1.wpAny_loadPart' hl, AutoSeq1.wpAny_loadPart' hb
    exact ⟨_, rfl, h⟩
def rExtT (K : PySem.W.Frag) : V → List V → Hp → VK → Prop := fun x vs H Q => ∃ (l b : Addr) (xs zs : List V), x = .ref l ∧ vs = [.ref b] ∧ H l = some (.lst xs) ∧ SqT K H b zs ∧ xs.length + zs.length ≤ sizeLine ∧ Q .non (upd H l (.lst (xs ++ zs)))
theorem mt_extendT : MtM X "list.extend" (rExtT X.K) := by
  intro pins s σ H x vs v us Q I rx rv h
  obtain ⟨l, b, xs, zs, rfl, rfl, hH, hB, hz, q⟩ := h
  cases rx
  obtain ⟨u, rfl, ru⟩ := rv.one
  cases ru
  obtain ⟨z, its, n, r, hl, e⟩ := I.lstM hH
  obtain ⟨its2, r2, ⟨o, h1, h2, n2, h3⟩, _⟩ := I.tuple hB
  obtain ⟨c, dd, dt, sl⟩ := o
  dsimp only at h2 h3
  subst h2 h3
  have l2 := r2.length
  have hsz : its.toArray.size + its2.toArray.size ≤ sizeLine := by rw [List.size_toArray, List.size_toArray]; omega
  have hlong : ¬ (!its.toArray.isEmpty && Builtin.List.listTooLong (its.toArray.size + its2.toArray.size)) = true := by
    rw [notLongL hsz, Bool.and_false]
    exact Bool.false_ne_true
  refine call_meets PySem.F.slot_list_extend ⟨_, e, rfl⟩ PySem.F.entry_list_extend (PySem.F.args_list_extend_2 _ _) (extend_tup l b its.toArray its2.toArray n n2 dd sl hlong (by rw [List.size_toArray]; omega) (by omega)) ⟨⟨e, h1⟩, ?_⟩
  refine ⟨.non, _, I.lset (its' := its ++ its2) hH e (by simp) (r.append r2) ?_, rfl, q⟩
  rw [List.length_append]
  omega
end
end L3
namespace Vm
open PySem PySem.Spec PyProof.Rows L2 L3
theorem iteK {c A B : Prop} [Decidable c] (h : ¬ c) (hb : B) : if decide c = true then A else B := by rw [decide_eq_false h]; exact hb
theorem iteY {c A B : Prop} [Decidable c] (h : c) (ha : A) : if decide c = true then A else B := by rw [decide_eq_true h]; exact ha
inductive Sk where
  | keep | lose | twice | swap | turn (w : Str) | add (w : Str) | skip (m : Nat)
def stepV : Sk → List V
  | .keep => [.str (Str.ofString "keep")]
  | .lose => [.str (Str.ofString "lose")]
  | .twice => [.str (Str.ofString "twice")]
  | .swap => [.str (Str.ofString "swap")]
  | .turn w => [.str (Str.ofString "turn"), .str w]
  | .add w => [.str (Str.ofString "add"), .str w]
  | .skip m => [.str (Str.ofString "skip"), .int (m : Nat)]
def okS : Sk → Prop
  | .skip m => 1 ≤ m ∧ m ≤ 1000
  | .turn w => Good w
  | .add w => Good w
  | _ => True
def skipB (es : List Str) (d m : Nat) : Bool := decide (1 ≤ d ∧ d + m ≤ es.length) && decide (es[d + m - 1]? = es[d - 1]?)
def fitsB (es : List Str) (d : Nat) (last : Option Str) : Sk → Bool
  | .keep => decide (d < es.length)
  | .lose => decide (d < es.length)
  | .twice => last.isSome
  | .swap => decide (d + 1 < es.length) && !decide (es[d]? = es[d + 1]?)
  | .turn w => decide (d < es.length) && !decide (es[d]? = some w)
  | .add _ => true
  | .skip m => skipB es d m
def wd : Sk → Nat
  | .add _ => 0
  | .twice => 0
  | .swap => 2
  | .skip m => m
  | _ => 1
def gt (es : List Str) (d : Nat) : Str := (es[d]?).getD (Str.ofString "")
def ww (es : List Str) (d : Nat) (last : Option Str) : Sk → List Str
  | .lose => []
  | .skip _ => []
  | .turn w => [w]
  | .add w => [w]
  | .twice => last.toList
  | .swap => [gt es (d + 1), gt es d]
  | .keep => [gt es d]
def after (es : List Str) (d : Nat) (last : Option Str) (st : Sk) : Option (Nat × List Str) := if fitsB es d last st = true then some (d + wd st, ww es d last st) else none
def optS : Option Str → V
  | none => .non
  | some z => .str z
theorem gt_of {es : List Str} {d : Nat} (h : d < es.length) : es[d]? = some (gt es d) := by
  unfold gt
  rw [List.getElem?_eq_getElem h]; rfl
theorem at_w {es : List Str} {d : Nat} (h : d < es.length) : atI (es.map V.str) (d : Int) = some (.str (gt es d)) := atI_nat (by rw [List.getElem?_map, gt_of h]; rfl)
theorem str_dec (a b : Str) : decide (V.str a = V.str b) = decide (a = b) := decide_eq_decide.mpr ⟨fun e => by injection e, fun e => by rw [e]⟩
theorem some_dec {es : List Str} {d : Nat} (h : d < es.length) (b : Str) : decide (es[d]? = some b) = decide (gt es d = b) := by
  rw [gt_of h]
  exact decide_eq_decide.mpr ⟨fun e => Option.some.inj e, fun e => by rw [e]⟩
theorem gt_mem {es : List Str} {d : Nat} (h : d < es.length) : gt es d ∈ es := List.mem_of_getElem? (gt_of h)
theorem pick {α : Type} (xs : List α) (n : Int) (m : Nat) (hm : xs.length = m) (h : 0 < m) : ∃ x ∈ xs, atI xs (n % (m : Int)) = some x := by
  have h0 : 0 ≤ n % (m : Int) := Int.emod_nonneg _ (by omega)
  have h1 : n % (m : Int) < m := Int.emod_lt_of_pos _ (by omega)
  obtain ⟨j, hj⟩ : ∃ j : Nat, n % (m : Int) = (j : Int) := ⟨(n % (m : Int)).toNat, by omega⟩
  have hl : j < xs.length := by omega
  refine ⟨xs[j], List.getElem_mem hl, ?_⟩
  rw [hj]
  exact atI_nat (List.getElem?_eq_getElem hl)
theorem atI_map {α β : Type} {g : α → β} {xs : List α} {i : Int} {x : α} (h : atI xs i = some x) : atI (xs.map g) i = some (g x) := by
  unfold atI at h ⊢
  rw [List.length_map]
  cases hix : ixN xs.length i with
  | none => rw [hix] at h; cases h
  | some j =>
    rw [hix, Option.bind_some] at h
    show (List.map g xs)[j]? = _
    rw [List.getElem?_map, h]
    rfl
end Vm

set_option Elab.async false
set_option linter.all false
set_option maxRecDepth 100000
set_option maxHeartbeats 4000000
/-! AN EXCEPTION THAT LEAVES A LOOP: what is kept of it while it passes. -/
namespace L3
open PySem PySem.Spec PyProof.Rows L2
/-- an address that nothing of the context holds -/
structure NB (X : Cx) (pins : List (Addr × Obj)) (H : Hp) (b : Addr) : Prop where
  s0 : X.s₀.heap.get? b = none
  loc : b ≠ X.env.locals
  cel : ∀ x c, X.env.cells.lookup x = some c → c ≠ b
  pin : ∀ p ∈ X.pn ++ pins, p.1 ≠ b
  hp : H b = none
section
variable {X : Cx} {pins : List (Addr × Obj)} {σ : L2.St} {H H' : Hp} {s : Shared} {b : Addr}
theorem nb_of (I : Inv X pins σ H s) (hex : X.ex = []) (hb : s.heap.get? b = none) : NB X pins H b := by
  refine ⟨old_none I hex hb, fun z => ?_, fun y c' ec z => ?_, fun q hq z => ?_, hok_none I.hok hb⟩
  · obtain ⟨m, ⟨o, _, _, ho, _⟩, _⟩ := I.loc
    rw [← z, hb] at ho; cases ho
  · obtain ⟨v, o, ho, _⟩ := I.cell y c' ec
    rw [z, hb] at ho; cases ho
  · have := (I.pin q hq).1
    rw [z, hb] at this; cases this
theorem NB.to (n : NB X pins H b) (h : H' b = none) : NB X pins H' b := ⟨n.s0, n.loc, n.cel, n.pin, h⟩
theorem inv_nb {h' : Heap} {t' : Nat} {S : List Addr} (I : Inv X pins σ H s) (k : Kpt S (frs X.stack) s.heap h') (n : ∀ b ∈ S, NB X pins H b) : Inv X pins σ H { s with heap := h', toks := t' } :=
  inv_kpt I k (fun b hb => (n b hb).s0) (fun b hb => (n b hb).loc) (fun b hb => (n b hb).cel) (fun b hb => (n b hb).pin) fun b hb => (n b hb).hp
end
/-- the exception e stands noted in this frame -/
def FlyN (X : Cx) (E : XK) (e : Value) (s : Shared) : Prop := ∃ (pins : List (Addr × Obj)) (σ : L2.St) (H : Hp) (ea T C : Addr), e = .ref ea ∧ Inv X pins σ H s ∧ NB X pins H ea ∧ NB X pins H T ∧ E (.ref C) none H ∧ Exc s.heap ea T C (rawInt X.env.locals)
/-- the exception e is in flight: just raised here, or come from a callee, or noted -/
def Fly (X : Cx) (E : XK) (e : Value) (s : Shared) : Prop := ∃ (pins : List (Addr × Obj)) (σ : L2.St) (H : Hp) (ea C : Addr), e = .ref ea ∧ Inv X pins σ H s ∧ NB X pins H ea ∧ E (.ref C) none H ∧
  ((∃ vs, s.heap.get? ea = some { cls := .ref C, data := .fields vs } ∧ vs[1]? = some .none) ∨ ∃ (T : Addr) (fl : Value), Exc s.heap ea T C fl ∧ NB X pins H T ∧ (fl = .none ∨ fl = rawInt X.env.locals))
theorem FlyN.fly {X : Cx} {E : XK} {e : Value} {s : Shared} (h : FlyN X E e s) : Fly X E e s := by
  obtain ⟨pins, σ, H, ea, T, C, he, I, n1, n2, hE, x⟩ := h
  exact ⟨pins, σ, H, ea, C, he, I, n1, hE, .inr ⟨T, _, x, n2, .inr rfl⟩⟩
section
variable {X : Cx} {E : XK} {e : Value} {s : Shared}
theorem note_same {M : Model} {A : Around} {E' : Value → Shared → Prop} {env : Env} {L ea T C : Addr} {Q : Unit → Shared → Prop} (hf : env.frame = some L) (x : Exc s.heap ea T C (rawInt L)) (h : Q () s) : wpAny M A (noteFrame (.ref ea) env) Q E' s := by
  obtain ⟨⟨vs, he, h1⟩, ⟨oT, ts, hT, dT, h3⟩, ne⟩ := x
  unfold noteFrame
  simp only [hf]
  refine wpAny_bind (wpAny_field he rfl h1 ?_)
  rw [if_pos (show (Value.ref T != Value.none) = true by simp)]
  refine wpAny_bind (wpAny_field hT dT h3 ?_)
  rw [if_pos (beq_self_eq_true _)]
  exact wpAny_pure h
theorem fly_note {M : Model} {E' : Value → Shared → Prop} {Q : Unit → Shared → Prop} (hst : X.stack = X.env :: X.outer ∧ X.env.frame = some X.env.locals) (hex : X.ex = []) (F : Fly X E e s) (hQ : ∀ s', FlyN X E e s' → Q () s') : wpAny M X.A (noteFrame e X.env) Q E' s := by
  obtain ⟨pins, σ, H, ea, C, rfl, I, n1, hE, hx⟩ := F
  have fr := I.ok.frames
  have stk := I.stack
  rw [hst.1] at fr stk
  rcases hx with ⟨vs, ho, h1⟩ | ⟨T0, fl, x, n2, hfl⟩
  · refine note_new (base := X.base) (outer := X.outer) fr stk hst.2 ho h1 fun k1 T hT x1 kp1 => hQ _ ?_
    have nT := nb_of I hex (size_none hT)
    have kp : Kpt [ea] (frs X.stack) s.heap k1 := by rw [hst.1]; exact kp1
    exact ⟨pins, σ, H, ea, T, C, rfl, inv_nb (t' := s.toks) I kp (fun b hb => by rw [List.mem_singleton.mp hb]; exact n1), n1, nT, hE, x1⟩
  · rcases hfl with rfl | rfl
    · refine note_on (base := X.base) (outer := X.outer) fr stk hst.2 x fun k1 T hT x1 kp1 => hQ _ ?_
      have nT := nb_of I hex (size_none hT)
      have kp : Kpt [ea, T0] (frs X.stack) s.heap k1 := by rw [hst.1]; exact kp1
      exact ⟨pins, σ, H, ea, T, C, rfl, inv_nb (t' := s.toks) I kp (fun b hb => by
        rcases List.mem_cons.mp hb with z | z
        · rw [z]; exact n1
        · rw [List.mem_singleton.mp z]; exact n2), n1, nT, hE, x1⟩
    · exact note_same hst.2 x (hQ s ⟨pins, σ, H, ea, T0, C, rfl, I, n1, n2, hE, x⟩)
/-- the flight is set -/
theorem fly_set {M : Model} {A : Around} {E' : Value → Shared → Prop} {to : Option Addr} {Q : Unit → Shared → Prop} (F : FlyN X E e s)
    (hQ : ∀ s' pins σ H ea T C, e = .ref ea → Inv X pins σ H s' → NB X pins H ea → NB X pins H T → E (.ref C) none H → Exc s'.heap ea T C (to.elim Value.none fun f => rawInt f) → Q () s') : wpAny M A (setFlight e to) Q E' s := by
  obtain ⟨pins, σ, H, ea, T, C, rfl, I, n1, n2, hE, x⟩ := F
  refine flight_set (to := to) x fun k2 x2 oth _ => hQ _ pins σ H ea T C rfl ?_ n1 n2 hE x2
  refine inv_nb (t' := s.toks) (S := [T]) I ⟨fun b o eb nb _ => (oth b fun z => nb (by rw [z]; simp)).trans eb, fun b o eb nb _ => ⟨o.slots, (oth b fun z => nb (by rw [z]; simp)).trans eb⟩⟩ fun b hb => by
    rw [List.mem_singleton.mp hb]; exact n2
theorem passes_fly (hst : X.stack = X.env :: X.outer ∧ X.env.frame = some X.env.locals) (hex : X.ex = []) : PassesOwn (model X.prog X.w) X.A X.env (Fly X E) := fun e s' F => by
  show wpAny _ X.A (noteFrame e X.env) _ _ s'
  refine fly_note hst hex F fun s'' N => ?_
  have N' := N
  obtain ⟨pins, σ, H, ea, T, C, rfl, I, n1, n2, hE, ⟨vs, he, h1⟩, _⟩ := N'
  unfold cameBackBy
  refine wpAny_bind (wpAny_field he rfl h1 ?_)
  rw [if_neg (show ¬ (Value.ref T == Value.none) = true by simp)]
  first
    | refine fly_set (to := X.env.frame) N fun s3 pins σ H ea T C e1 I3 m1 m2 hE3 x3 => ?_
    | refine wpAny_bind (wpAny_pure (fly_set (to := X.env.frame) N fun s3 pins σ H ea T C e1 I3 m1 m2 hE3 x3 => ?_))
  rw [hst.2] at x3
  exact ⟨pins, σ, H, ea, C, e1, I3, m1, hE3, .inr ⟨T, _, x3, m2, .inr rfl⟩⟩
theorem lands_fly (hex : X.ex = []) : Lands (X.wish (Fly X E)) E := by
  intro pins σ H s h' ea C vs I kp new ho h1 hE
  have I0 := I.unwish
  exact ⟨pins, σ, H, ea, C, rfl, I0.kept (t' := s.toks) kp, nb_of I0 hex new, hE, .inl ⟨vs, ho, h1⟩⟩
end
section
variable {P : Program} {w : World} {K : PySem.W.Frag} {mg : Str → Option Value} {base : Heap} {N : List Str} {qual : Str} {scope : Scope} {f : Addr} {cd : Value} {A : Around} {outer : List Env} {s0 : Shared} {H0 : Hp} {E : XK}
abbrev cxF (P : Program) (w : World) (K : PySem.W.Frag) (mg : Str → Option Value) (base : Heap) (N : List Str) (qual : Str) (scope : Scope) (f : Addr) (cd : Value) (A : Around) (outer : List Env) (s0 : Shared) (H0 : Hp) (E : XK) : Cx :=
  (cxOf (CXv P w) P w K mg base N qual scope f cd A outer s0 H0 E).wish (Fly (cxOf (CXv P w) P w K mg base N qual scope f cd A outer s0 H0 E) E)
theorem passesF : Passes (CXv P w) (cxF P w K mg base N qual scope f cd A outer s0 H0 E) E := by
  intro pins σ H s e s' I hx
  obtain ⟨ea, T0, C, H', rfl, x, n1, n2, t1, t2, os, bare, un, hok, hE⟩ := hx
  have I0 := I.unwish
  have I' : Inv (cxOf (CXv P w) P w K mg base N qual scope f cd A outer s0 H0 E) pins σ H' s' := I0.call' os un hok bare fun b z => absurd z (by simp)
  exact ⟨pins, σ, H', ea, C, rfl, I', (nb_of I0 rfl n1).to t1, hE, .inr ⟨T0, .none, x, (nb_of I0 rfl n2).to t2, .inl rfl⟩⟩
theorem fly_leave {e : Value} {s : Shared} (F : Fly (cxOf (CXv P w) P w K mg base N qual scope f cd A outer s0 H0 E) E e s) : (cxOf (CXv P w) P w K mg base N qual scope f cd A outer s0 H0 E).xe e s := by
  show wpAny (model P w) (A.deeper (envOfC qual scope s0.heap.objs.size f cd)) (leaving (envOfC qual scope s0.heap.objs.size f cd) e) _ _ s
  unfold leaving
  refine wpAny_bind (fly_note ⟨rfl, rfl⟩ rfl F fun s'' Nn => ?_)
  refine fly_set (to := none) Nn fun s3 pins σ H ea T C e1 I3 m1 m2 hE3 x3 => ?_
  exact ⟨ea, T, C, H, e1, x3, m1.s0, m2.s0, m1.hp, m2.hp, I3.os, I3.bare, I3.base, I3.hok, hE3⟩
theorem PSs.fly {sts : List Stmt} {t : TS} (h : PSs (cxF P w K mg base N qual scope f cd A outer s0 H0 E) sts t) : PSs (cxOf (CXv P w) P w K mg base N qual scope f cd A outer s0 H0 E) sts t := fun pins s σ H D I hw =>
  wpAny_mono (h pins s σ H D (I.wish _) hw) (fun _ _ q => q.unwish) fun _ _ z => fly_leave z
theorem passF : PassesOwn (model P w) (cxF P w K mg base N qual scope f cd A outer s0 H0 E).A (cxF P w K mg base N qual scope f cd A outer s0 H0 E).env (cxF P w K mg base N qual scope f cd A outer s0 H0 E).xe := passes_fly (X := cxOf (CXv P w) P w K mg base N qual scope f cd A outer s0 H0 E) ⟨rfl, rfl⟩ rfl
theorem landsF : Lands (cxF P w K mg base N qual scope f cd A outer s0 H0 E) E := lands_fly rfl
end
end L3

set_option Elab.async false
set_option linter.all false
set_option maxRecDepth 100000
set_option maxHeartbeats 4000000
/-! try .. except C: (without a name); THE MATHEMATICS of rows of steps. -/
namespace L3
open PySem PySem.Spec PyProof.Rows L2
section
variable {X : Cx} {k : Nat} {f : Addr} {fd : FuncData} {ps : List Str} {sp : Sp} {fx x c : Str} {e : Expr} {es : List Expr} {ta : TA} {p pos : Pos}
def tTry0 (sp : Sp) (i : Nat) (K : PySem.W.Frag) (D : Addr) (ta : TA) (tb : TS) : TS := fun De σ H => ta σ H fun vs H1 => sp vs H1 (fun v H2 => De.nx (σ.set i (some v)) H2) fun Cv _ H2 => ∃ C, Cv = .ref C ∧ Hits K C D ∧ tb De σ H2
theorem ps_try0 {i : Nat} {D : Addr} {b0 : Stmt} {suite : List Stmt} {tb : TS} {px ap np hp tp : Pos} (hne : ∀ e s, X.xe e s → False) (hst : X.stack = X.env :: X.outer ∧ X.env.frame = some X.env.locals) (hex : X.ex = [])
    (F : FnOk X.prog X.w X.K X.mg X.base (CXv X.prog X.w) k f fd ps sp) (hr : Room k X.A) (hg : Gl X fx) (hm : X.mg fx = some (.ref f)) (hk : PySem.W.keepIn X.K (.ref f) = true) (hb : Binds X.K fd ps []) (ha : PA X (e :: es) ta)
    (hN : X.N.Nodup) (hi : X.N[i]? = some x) (hx : X.env.scope.names.lookup x = some .local)
    (hgc : Gl X c) (hmc : X.mg c = some (.ref D)) (hs : ∀ ea, PSs (hand X ea) (b0 :: suite) tb)
    (hsw : swapsWith (.Call (.Name fx p) (e :: es) [] pos) (some (.Name x px)) ap.line X.env = pure false := by rfl)
    (hdb : (fx == ("__debug__" : Str)) = false := by decide) (hdc : (c == ("__debug__" : Str)) = false := by decide) (he : starEach (e :: es) X.env = (false, eval e X.env) :: starEach es X.env := by rfl) (hpl : (backTo pos (starEach es X.env)).any (·.1) = false := by rfl) :
    PS X (.Try [.Assign [.Name x px] (.Call (.Name fx p) (e :: es) [] pos) ap] [.ExceptHandler (some (.Name c np)) none (b0 :: suite) hp] [] [] tp) (tTry0 sp i X.K D ta tb) := by
  intro pins s σ H De I h
  refine wpAny_Try_except (wpAny_execs_cons (wpAny_Assign_Name (wpAny_mono (eval_call (pos := pos) (p := p) hne F hr hg hm hk hb ha I h hdb he hpl) (fun v s1 ⟨y, H1, I1, r1, q1⟩ => ?_) fun e0 s1 hx1 => ?_) hsw))
  · exact store_ok I1 hN hi (.inl hx) r1 (fun s2 I2 => wpAny_execs_nil (wpAny_execs_nil ⟨_, H1, I2, q1⟩)) (.inr hx)
  obtain ⟨H1, s1', I1, ea, T0, C, H', rfl, xx, n1, n2, t1, t2, os, bare, un, hok, C', eC, ⟨vC, vD, hitF⟩, hand'⟩ := hx1
  cases eC
  have I' : Inv X pins σ H' s1 := I1.call' os un hok bare fun b z => absurd z (by simp)
  have m1 : NB X pins H' ea := (nb_of I1 hex n1).to t1
  have m2 : NB X pins H' T0 := (nb_of I1 hex n2).to t2
  have fr := I'.ok.frames
  have stk := I'.stack
  rw [hst.1] at fr stk
  refine note_on (base := X.base) (outer := X.outer) fr stk hst.2 xx fun k1 T hT x1 kp1 => ?_
  have mT : NB X pins H' T := nb_of I' hex (size_none hT)
  have J1 : Inv X pins σ H' { s1 with heap := k1 } := inv_nb (t' := s1.toks) (S := [ea, T0]) I' (by rw [hst.1]; exact kp1) fun b hb => by
    rcases List.mem_cons.mp hb with z | z
    · rw [z]; exact m1
    · rw [List.mem_singleton.mp z]; exact m2
  have turnT : ∀ {st : Shared} {k2 : Heap}, Inv X pins σ H' st → (∀ b, b ≠ T → k2.get? b = st.heap.get? b) → Inv X pins σ H' { st with heap := k2 } := fun {st k2} J oth =>
    inv_nb (t' := st.toks) (S := [T]) J ⟨fun b o e nb _ => (oth b fun z => nb (by rw [z]; simp)).trans e, fun b o e nb _ => ⟨o.slots, (oth b fun z => nb (by rw [z]; simp)).trans e⟩⟩ fun b hb => by rw [List.mem_singleton.mp hb]; exact mT
  refine flight_set (to := none) x1 fun k2 x2 oth2 _ => ?_
  have J2 : Inv X pins σ H' { s1 with heap := k2 } := turnT (st := { s1 with heap := k1 }) J1 oth2
  obtain ⟨bmC, xC⟩ := VEx.cls J2.kIn vC
  obtain ⟨bmD, xD⟩ := VEx.cls J2.kIn vD
  obtain ⟨vs2, ob2, _⟩ := x2.ob
  refine wpAny_handleBy_cons (codeAny_handlers_test (ld_glob (X := hand X ea) (inv_hand J2) hgc hmc ?_ hdc)) (fun z => by cases z)
  refine exc_hit (s := { s1 with heap := k2 }) xC xD ob2 rfl (hitF _ J2.kIn _ xC) ?_
  show codeAny _ _ _ _ _
  refine codeAny_handlers_suite ?_
  refine flight_set (s := { s1 with heap := k2 }) (to := none) x2 fun k3 x3 oth3 _ => ?_
  have J3 : Inv X pins σ H' { s1 with heap := k3 } := turnT (st := { s1 with heap := k2 }) J2 oth3
  refine wpAny_mono (hs ea pins _ σ H' De (inv_hand J3) hand') (fun fl s6 q6 => ?_) fun _ _ z => False.elim z
  cases fl with
  | next => obtain ⟨σ6, H6, I6, q⟩ := q6; exact ⟨σ6, H6, inv_unhand I.ok I6, q⟩
  | brk => obtain ⟨σ6, H6, I6, q⟩ := q6; exact ⟨σ6, H6, inv_unhand I.ok I6, q⟩
  | cont => obtain ⟨σ6, H6, I6, q⟩ := q6; exact ⟨σ6, H6, inv_unhand I.ok I6, q⟩
  | ret u => obtain ⟨v, σ6, H6, I6, r6, q⟩ := q6; exact ⟨v, σ6, H6, inv_unhand I.ok I6, r6, q⟩
end
end L3
namespace Vm
open PySem PySem.Spec PyProof.Rows L2 L3
/-! ### rows of steps -/
abbrev WS := Nat × List Str × List Nat
def walk1 (es : List Str) (x : WS) (st : Sk) : Option WS := (after es x.1 x.2.1.getLast? st).map fun y => (y.1, x.2.1 ++ y.2, x.2.2 ++ [x.1])
def walk (es : List Str) : List Sk → WS → Option WS
  | [], x => some x
  | st :: r, x => (walk1 es x st).bind (walk es r)
theorem walk_append (es : List Str) : ∀ (a b : List Sk) (x : WS), walk es (a ++ b) x = (walk es a x).bind (walk es b)
  | [], b, x => rfl
  | st :: a, b, x => by
    show (walk1 es x st).bind (walk es (a ++ b)) = ((walk1 es x st).bind (walk es a)).bind (walk es b)
    cases walk1 es x st with
    | none => rfl
    | some y => exact walk_append es a b y
theorem walk_one (es : List Str) (st : Sk) (x : WS) : walk es [st] x = walk1 es x st := by
  show (walk1 es x st).bind (walk es []) = _
  cases walk1 es x st <;> rfl
def made (es : List Str) (sts : List Sk) : Option (List Str × List Nat) := (walk es sts (0, [], [])).bind fun x => if x.1 < es.length ∨ 40 < x.2.1.length then none else some (x.2.1, x.2.2)
theorem after_le {es : List Str} {d : Nat} {last : Option Str} {st : Sk} {y : Nat × List Str} (h : after es d last st = some y) (hd : d ≤ es.length) : y.1 ≤ es.length := by
  unfold after at h
  split at h
  · rename_i hf
    cases h
    show d + wd st ≤ es.length
    cases st with
    | keep => have := of_decide_eq_true hf; show d + 1 ≤ _; omega
    | lose => have := of_decide_eq_true hf; show d + 1 ≤ _; omega
    | twice => exact hd
    | add _ => exact hd
    | swap => have := of_decide_eq_true (Bool.and_eq_true_iff.mp hf).1; show d + 2 ≤ _; omega
    | turn _ => have := of_decide_eq_true (Bool.and_eq_true_iff.mp hf).1; show d + 1 ≤ _; omega
    | skip m =>
      have h2 : (decide (1 ≤ d ∧ d + m ≤ es.length) && decide (es[d + m - 1]? = es[d - 1]?)) = true := hf
      have := of_decide_eq_true (Bool.and_eq_true_iff.mp h2).1
      exact this.2
  · cases h
theorem ww_len (es : List Str) (d : Nat) (last : Option Str) (st : Sk) : (ww es d last st).length ≤ 2 := by
  cases st with
  | twice => cases last <;> simp [ww]
  | _ => simp [ww]
theorem after_len {es : List Str} {d : Nat} {last : Option Str} {st : Sk} {y : Nat × List Str} (h : after es d last st = some y) : y.2.length ≤ 2 := by
  unfold after at h
  split at h
  · cases h; exact ww_len es d last st
  · cases h
/-- a turn of the walk -/
theorem walk_turn {es : List Str} {sts : List Sk} {i : Nat} {st : Sk} {d : Nat} {cp : List Str} {pl : List Nat} (hi : sts[i]? = some st) (hw : walk es (sts.take i) (0, [], []) = some (d, cp, pl)) :
    walk es (sts.take (i + 1)) (0, [], []) = (after es d cp.getLast? st).map fun y => (y.1, cp ++ y.2, pl ++ [d]) := by
  have hl := (List.getElem?_eq_some_iff.mp hi).1
  rw [List.take_succ_eq_append_getElem hl, (List.getElem?_eq_some_iff.mp hi).2, walk_append, hw]
  exact walk_one es st _
theorem walk_stop {es : List Str} {sts : List Sk} {i : Nat} (h : walk es (sts.take i) (0, [], []) = none) : made es sts = none := by
  unfold made
  have e : sts = sts.take i ++ sts.drop i := (List.take_append_drop i sts).symm
  rw [e, walk_append, h]
  rfl
/-- the steps' tuples -/
structure StepsAt (K : PySem.W.Frag) (H : Hp) (ts : List Addr) (sts : List Sk) : Prop where
  len : ts.length = sts.length
  item : ∀ (i : Nat) (t : Addr) (st : Sk), ts[i]? = some t → sts[i]? = some st → SqT K H t (stepV st) ∧ okS st
theorem sameT {K : PySem.W.Frag} {H H' : Hp} {a : Addr} {xs : List V} (S : Same H H') (h : SqT K H a xs) : SqT K H' a xs := by
  rcases h with (h | ⟨o, h⟩) | h
  · exact .inl (.inl (S _ _ h))
  · exact .inl (.inr ⟨o, S _ _ h⟩)
  · exact .inr h
theorem StepsAt.mono {K : PySem.W.Frag} {H H' : Hp} {ts : List Addr} {sts : List Sk} (S : Same H H') (h : StepsAt K H ts sts) : StepsAt K H' ts sts :=
  ⟨h.len, fun i t st e1 e2 => ⟨sameT S (h.item i t st e1 e2).1, (h.item i t st e1 e2).2⟩⟩
theorem StepsAt.nil {K : PySem.W.Frag} {H : Hp} : StepsAt K H [] [] := ⟨rfl, fun i t st e _ => by simp at e⟩
theorem StepsAt.snoc {K : PySem.W.Frag} {H : Hp} {ts : List Addr} {sts : List Sk} {t : Addr} {st : Sk} (h : StepsAt K H ts sts) (ht : SqT K H t (stepV st)) (ho : okS st) : StepsAt K H (ts ++ [t]) (sts ++ [st]) := by
  refine ⟨by rw [List.length_append, List.length_append, h.len]; rfl, fun i t' st' e1 e2 => ?_⟩
  by_cases hi : i < ts.length
  · rw [List.getElem?_append_left hi] at e1
    rw [List.getElem?_append_left (by rw [← h.len]; exact hi)] at e2
    exact h.item i t' st' e1 e2
  · rw [List.getElem?_append_right (by omega)] at e1
    rw [List.getElem?_append_right (by rw [← h.len]; omega), ← h.len] at e2
    by_cases h0 : i - ts.length = 0
    · rw [h0] at e1 e2
      cases e1; cases e2
      exact ⟨ht, ho⟩
    · obtain ⟨j, hj⟩ : ∃ j, i - ts.length = j + 1 := ⟨i - ts.length - 1, by omega⟩
      rw [hj] at e1
      simp at e1
theorem StepsAt.rep {K : PySem.W.Frag} {H : Hp} {t : Addr} {st : Sk} (ht : SqT K H t (stepV st)) (ho : okS st) : ∀ (n : Nat) {ts : List Addr} {sts : List Sk}, StepsAt K H ts sts → StepsAt K H (ts ++ List.replicate n t) (sts ++ List.replicate n st)
  | 0, ts, sts, h => by rw [List.replicate_zero, List.replicate_zero, List.append_nil, List.append_nil]; exact h
  | n + 1, ts, sts, h => by
    have := StepsAt.rep ht ho n (h.snoc ht ho)
    rw [List.append_assoc, List.append_assoc] at this
    exact this
theorem ref_at {ts : List Addr} {i : Nat} {y : V} (hi : (ts.map V.ref)[i]? = some y) : ∃ t, ts[i]? = some t ∧ y = .ref t := by
  rw [List.getElem?_map] at hi
  cases e : ts[i]? with
  | none => rw [e] at hi; cases hi
  | some t => rw [e] at hi; exact ⟨t, rfl, (Option.some.inj hi).symm⟩
theorem last_at {cp : List Str} (h : 0 < cp.length) : ∃ l, cp.getLast? = some l ∧ atI (cp.map V.str) (-1) = some (.str l) := by
  obtain ⟨r, z, rfl⟩ : ∃ r z, cp = r ++ [z] := ⟨cp.dropLast, cp.getLast (by intro e; rw [e] at h; exact absurd h (by decide)), (List.dropLast_concat_getLast _).symm⟩
  refine ⟨z, by simp, ?_⟩
  rw [List.map_append]
  exact atI_last _ _
end Vm

set_option Elab.async false
set_option linter.all false
set_option maxRecDepth 100000
set_option maxHeartbeats 4000000
/-! zip of two tuples, walked; sum of ints; a text's place in a list; a dict of the module. -/
namespace L3
open PySem PySem.Spec PyProof.Rows L2
section
variable {prog : Program} {w : World}
/-- an iterator as zip draws from it -/
structure Cursor (prog : Program) (w : World) (it t : Addr) (xs : Array Value) (St : Nat → Heap → Prop) : Prop where
  stay : ∀ i (h h' : Heap), St i h → (∀ o, h.get? it = some o → h'.get? it = some o) → (∀ o, h.get? t = some o → h'.get? t = some o) → St i h'
  draw : ∀ (A : Around) (E : Value → Shared → Prop) (s : Shared) (Q : Value → Shared → Prop) (i : Nat) (x : Value), St i s.heap → xs[i]? = some x → (∀ h', St (i + 1) h' → Heap.SameBut it s.heap h' → Q x { s with heap := h' }) → wpAny (model prog w) A (Builtin.SmallTypes.nextOf (.ref it)) Q E s
  over : ∀ (A : Around) (E : Value → Shared → Prop) (s : Shared) (Q : Value → Shared → Prop) (i : Nat), A.handled = none → St i s.heap → xs[i]? = none →
    (∀ h' e, Heap.ExtBut it s.heap h' → (∃ o, h'.get? e = some o ∧ o.cls = .type "StopIteration") → E (.ref e) { s with heap := h' }) → wpAny (model prog w) A (Builtin.SmallTypes.nextOf (.ref it)) Q E s
  lt : ∀ i h, St i h → ∃ o, h.get? it = some o ∧ ∀ v, o.data ≠ .cell v
theorem cursor_tuple (it t : Addr) (xs : Array Value) (hne : t ≠ it) : Cursor prog w it t xs (fun i h => h.IsTupleIter it t i ∧ h.IsTuple t xs) where
  stay := fun i h h' st k1 k2 => ⟨st.1.at k1, by obtain ⟨o, e, r⟩ := st.2; exact ⟨o, k2 o e, r⟩⟩
  lt := fun i h st => by obtain ⟨o, e, _, d⟩ := st.1; exact ⟨o, e, fun v z => by rw [d] at z; cases z⟩
  draw := by
    intro A E s Q i x st hx hQ
    obtain ⟨hit, ht⟩ := st
    obtain ⟨o, ho, hc, hd⟩ := id hit
    obtain ⟨ot, hot, ct, nt, dt⟩ := id ht
    unfold Builtin.SmallTypes.nextOf
    refine wpAny_bind (wpAny_callSpecial?_slot (name := Str.ofString "__next__") hit.typeIs PySem.F.slot_tuple_iterator_next (wpAny_call_entry PySem.F.slot_tuple_iterator_next hit.typeIs PySem.F.entry_tuple_iterator_next ?_ (PySem.F.args_tuple_iterator_next_1 _)))
    refine (show wpAny _ _ (field (.ref it) 0 >>= _) _ _ s from wpAny_bind (wpAny_field ho hd (x := .ref t) rfl ?_))
    refine (show wpAny _ _ (if (Value.ref t == Value.none) = true then _ else _) _ _ s from ?_); rw [if_neg (show ¬ ((Value.ref t == Value.none) = true) by simp)]
    refine (show wpAny _ _ (field (.ref it) 1 >>= _) _ _ s from wpAny_bind (wpAny_field ho hd (x := .int i 0) rfl ?_))
    refine (show wpAny _ _ (seqItems? (.ref t) >>= _) _ _ s from wpAny_bind (wpAny_seqItems hot dt ?_)); simp only [Int.toNat_natCast, hx]
    refine wpAny_bind (wpAny_setField ho hd (by simp) (wpAny_pure ⟨x, rfl, wpAny_pure (hQ _ ⟨?_, ?_⟩ (Heap.SameBut.update ..))⟩))
    · refine ⟨_, Heap.get?_update_self _ ho (Obj.isFreed_of_fields (Obj.data_mapFields hd _)), (Obj.cls_mapFields ..).trans hc, ?_⟩; rw [Obj.data_mapFields hd]; simp [rawInt]
    · exact ⟨ot, (Heap.get?_update_other _ _ (Ne.symm hne)).trans hot, ct, nt, dt⟩
  over := by
    intro A E s Q i hh st hx hE
    obtain ⟨hit, ht⟩ := st
    obtain ⟨o, ho, hc, hd⟩ := id hit
    obtain ⟨ot, hot, ct, nt, dt⟩ := id ht
    unfold Builtin.SmallTypes.nextOf
    refine wpAny_bind (wpAny_callSpecial?_slot (name := Str.ofString "__next__") hit.typeIs PySem.F.slot_tuple_iterator_next (wpAny_call_entry PySem.F.slot_tuple_iterator_next hit.typeIs PySem.F.entry_tuple_iterator_next ?_ (PySem.F.args_tuple_iterator_next_1 _)))
    refine (show wpAny _ _ (field (.ref it) 0 >>= _) _ _ s from wpAny_bind (wpAny_field ho hd (x := .ref t) rfl ?_))
    refine (show wpAny _ _ (if (Value.ref t == Value.none) = true then _ else _) _ _ s from ?_); rw [if_neg (show ¬ ((Value.ref t == Value.none) = true) by simp)]
    refine (show wpAny _ _ (field (.ref it) 1 >>= _) _ _ s from wpAny_bind (wpAny_field ho hd (x := .int i 0) rfl ?_))
    refine (show wpAny _ _ (seqItems? (.ref t) >>= _) _ _ s from wpAny_bind (wpAny_seqItems hot dt ?_)); simp only [Int.toNat_natCast, hx]
    refine wpAny_bind (wpAny_rule (wpAny_bind (wpAny_setField ho hd (by simp) (wpAny_bind ?_)))); simp only [newExc, newTuple]
    refine wpAny_bind (wpAny_newObj_type ?_ (by size_fits)); refine wpAny_bind (m := firstArgMember _ _) (wpAny_of_eq (a := Value.none) (by first | rfl | (simp only [firstArgMember]; rfl)) ?_)
    refine wpAny_newObj_type ?_ (by size_fits); simp only [raiseNew]; refine wpAny_bind (wpAny_handled ?_)
    first | rw [show A.in1.handled = none from hh] | rw [hh]
    exact wpAny_bind (wpAny_pure (wpAny_throw (hE _ _ (((Heap.SameBut.update ..).extBut.push _).push _) ⟨_, Heap.get?_push_size _ rfl, rfl⟩)))
/-- the zip's own objects and the two sources are apart -/
structure Apart (z TI TO i1 i2 t1 t2 : Addr) : Prop where
  a1 : TI ≠ z
  a2 : TO ≠ z
  a3 : i1 ≠ z
  a4 : i2 ≠ z
  a5 : TI ≠ TO
  a6 : TI ≠ i1
  a7 : TI ≠ i2
  a8 : TO ≠ i1
  a9 : TO ≠ i2
  b1 : i1 ≠ i2
  b2 : t1 ≠ z
  b3 : t1 ≠ TO
  b4 : t1 ≠ i1
  b5 : t1 ≠ i2
  b6 : t2 ≠ z
  b7 : t2 ≠ TO
  b8 : t2 ≠ i1
  b9 : t2 ≠ i2
section
variable {A : Around} {E : Value → Shared → Prop} {s : Shared} {z TI TO i1 i2 t1 t2 : Addr} {xs ys : Array Value} {S1 S2 : Nat → Heap → Prop} {k : Nat}
theorem cur_to {it t c : Addr} {us : Array Value} {S : Nat → Heap → Prop} {i : Nat} {h h' : Heap} (C : Cursor prog w it t us S) (st : S i h) (e : Heap.SameBut c h h') (n1 : it ≠ c) (n2 : t ≠ c) : S i h' :=
  C.stay i h h' st (fun o q => e.extBut _ _ n1 q) (fun o q => e.extBut _ _ n2 q)
theorem zip_draw {x y a b : Value} {Q : Value → Shared → Prop} (D : Apart z TI TO i1 i2 t1 t2) (C1 : Cursor prog w i1 t1 xs S1) (C2 : Cursor prog w i2 t2 ys S2)
    (hz : IsZip s.heap z TI TO .none) (hTI : IsPair s.heap TI (.ref i1) (.ref i2)) (hTO : IsPair s.heap TO a b) (h1 : S1 k s.heap) (h2 : S2 k s.heap) (hx : xs[k]? = some x) (hy : ys[k]? = some y)
    (hQ : ∀ h', IsZip h' z TI TO (rawInt s.heap.objs.size) → IsPair h' TO x y → S1 (k + 1) h' → S2 (k + 1) h' → IsPair h' s.heap.objs.size x y → (∀ c o, c ≠ z → c ≠ TO → c ≠ i1 → c ≠ i2 → s.heap.get? c = some o → h'.get? c = some o) → Q (.ref s.heap.objs.size) { s with heap := h' }) :
    wpAny (model prog w) A (Builtin.«zip.__next__» ⟨[.ref z], []⟩) (fun fin s' => ∃ v, fin = .done (.ret v) ∧ Q v s') E s := by
  refine (show wpAny _ _ (field (.ref z) 2 >>= _) _ _ _ from wpAny_bind (wpAny_field hz rfl (x := .bool false) rfl ?_))
  refine (show wpAny _ _ (field (.ref z) 3 >>= _) _ _ _ from wpAny_bind (wpAny_field hz rfl (x := .ref TI) rfl (wpAny_bind (wpAny_seqItems hTI rfl ?_))))
  refine (show wpAny _ _ (Builtin.SmallTypes.ownedTupleIsFree (.ref z) >>= _) _ _ _ from wpAny_bind ?_); unfold Builtin.SmallTypes.ownedTupleIsFree
  refine wpAny_bind (wpAny_field hz rfl (x := .none) rfl (wpAny_pure ?_)); simp only [if_true]
  refine wpAny_bind (wpAny_rule (wpAny_bind (wpAny_field hz rfl (x := .ref TO) rfl (wpAny_bind (wpAny_setField_rec hz (by simp) fun g1 q1 e1 => ?_)))))
  replace q1 : IsZip g1 z TI TO .ellipsis := q1
  refine wpAny_bind ?_; simp only [List.zipIdx_cons, List.zipIdx_nil, List.forIn_cons, List.forIn_nil]
  -- the first
  refine wpAny_bind (wpAny_bind (wpAny_onRaise ?_)); refine (show wpAny _ _ (Builtin.SmallTypes.nextOf (.ref i1) >>= _) _ _ _ from wpAny_bind (C1.draw _ _ _ _ k x (cur_to C1 h1 e1 D.a3 D.b2) hx fun g2 c1 e2 => wpAny_pure ?_))
  have p2 : IsPair g2 TO a b := e2.extBut _ _ D.a8 (e1.extBut _ _ D.a2 hTO)
  refine wpAny_bind (wpAny_seqItems p2 rfl (wpAny_bind (wpAny_updateSeq_pair p2 fun g3 p3 e3 => wpAny_bind (wpAny_letGo (wpAny_pure ?_))))); replace p3 : IsPair g3 TO x b := p3
  -- the second
  have d2 : S2 k g3 := cur_to C2 (cur_to C2 (cur_to C2 h2 e1 D.a4 D.b6) e2 D.b1.symm D.b8) e3 D.a9.symm D.b7
  refine wpAny_bind (wpAny_bind (wpAny_onRaise ?_)); refine (show wpAny _ _ (Builtin.SmallTypes.nextOf (.ref i2) >>= _) _ _ _ from wpAny_bind (C2.draw _ _ _ _ k y d2 hy fun g4 c2 e4 => wpAny_pure ?_))
  have p4 : IsPair g4 TO x b := e4.extBut _ _ D.a9 p3
  refine wpAny_bind (wpAny_seqItems p4 rfl (wpAny_bind (wpAny_updateSeq_pair p4 fun g5 p5 e5 => wpAny_bind (wpAny_letGo (wpAny_pure (wpAny_pure ?_)))))); replace p5 : IsPair g5 TO x y := p5
  -- what is handed out
  refine wpAny_bind (wpAny_seqItems p5 rfl (wpAny_bind (wpAny_newTuple ?_)))
  have sz : g5.objs.size = s.heap.objs.size := by rw [e5.1, e4.1, e3.1, e2.1, e1.1]
  have q5 : IsZip g5 z TI TO .ellipsis := e5.extBut _ _ D.a2.symm (e4.extBut _ _ D.a4.symm (e3.extBut _ _ D.a2.symm (e2.extBut _ _ D.a3.symm q1)))
  have kp : ∀ c o, c ≠ z → c ≠ TO → c ≠ i1 → c ≠ i2 → s.heap.get? c = some o → g5.get? c = some o := fun c o n1 n2 n3 n4 q => e5.extBut _ _ n2 (e4.extBut _ _ n4 (e3.extBut _ _ n2 (e2.extBut _ _ n3 (e1.extBut _ _ n1 q))))
  have d1 : S1 (k + 1) g5 := cur_to C1 (cur_to C1 (cur_to C1 c1 e3 D.a8.symm D.b3) e4 D.b1 D.b5) e5 D.a8.symm D.b3
  have d3 : S2 (k + 1) g5 := cur_to C2 c2 e5 D.a9.symm D.b7
  refine (show wpAny _ _ (Builtin.SmallTypes.ownedTupleHandOut (.ref z) (.ref g5.objs.size) >>= _) _ _ _ from wpAny_bind ?_); unfold Builtin.SmallTypes.ownedTupleHandOut
  have q6 : IsZip (g5.push { cls := .type "tuple", data := .seq #[x, y] }) z TI TO .ellipsis := Heap.get?_push_of_some _ q5
  refine wpAny_bind (wpAny_setField_rec q6 (by simp) fun g7 q7 e7 => ?_); replace q7 : IsZip g7 z TI TO (rawInt g5.objs.size) := q7
  refine wpAny_setField_rec q7 (by simp) fun g8 q8 e8 => ?_; replace q8 : IsZip g8 z TI TO (rawInt g5.objs.size) := q8
  have up : ∀ c o, c ≠ z → g5.get? c = some o → g8.get? c = some o := fun c o n q => e8.extBut _ _ n (e7.extBut _ _ n (Heap.get?_push_of_some _ q))
  have zl : z < g5.objs.size := Heap.lt_size q5
  have p8 : IsPair g8 g5.objs.size x y := e8.extBut _ _ (Nat.ne_of_gt zl) (e7.extBut _ _ (Nat.ne_of_gt zl) (Heap.get?_push_size _ rfl))
  rw [sz] at q8 p8
  refine wpAny_pure ⟨_, rfl, ?_⟩
  refine (show Q (.ref g5.objs.size) _ from ?_); rw [sz]
  exact hQ g8 q8 (up _ _ D.a2 p5) (C1.stay _ _ _ d1 (fun o q => up _ o D.a3 q) (fun o q => up _ o D.b2 q)) (C2.stay _ _ _ d3 (fun o q => up _ o D.a4 q) (fun o q => up _ o D.b6 q)) p8 fun c o n1 n2 n3 n4 q => up c o n1 (kp c o n1 n2 n3 n4 q)
theorem zip_over {a b : Value} {Q : Fin → Shared → Prop} (hh : A.handled = none) (D : Apart z TI TO i1 i2 t1 t2) (C1 : Cursor prog w i1 t1 xs S1) (C2 : Cursor prog w i2 t2 ys S2)
    (hz : IsZip s.heap z TI TO .none) (hTI : IsPair s.heap TI (.ref i1) (.ref i2)) (hTO : IsPair s.heap TO a b) (h1 : S1 k s.heap) (h2 : S2 k s.heap) (hend : xs[k]? = none ∨ ys[k]? = none)
    (hE : ∀ h' e, (∀ c o, c ≠ z → c ≠ TO → c ≠ i1 → c ≠ i2 → s.heap.get? c = some o → h'.get? c = some o) → (∃ o, h'.get? e = some o ∧ o.cls = .type "StopIteration") → E (.ref e) { s with heap := h' }) :
    wpAny (model prog w) A (Builtin.«zip.__next__» ⟨[.ref z], []⟩) Q E s := by
  refine (show wpAny _ _ (field (.ref z) 2 >>= _) _ _ _ from wpAny_bind (wpAny_field hz rfl (x := .bool false) rfl ?_))
  refine (show wpAny _ _ (field (.ref z) 3 >>= _) _ _ _ from wpAny_bind (wpAny_field hz rfl (x := .ref TI) rfl (wpAny_bind (wpAny_seqItems hTI rfl ?_))))
  refine (show wpAny _ _ (Builtin.SmallTypes.ownedTupleIsFree (.ref z) >>= _) _ _ _ from wpAny_bind ?_); unfold Builtin.SmallTypes.ownedTupleIsFree
  refine wpAny_bind (wpAny_field hz rfl (x := .none) rfl (wpAny_pure ?_)); simp only [if_true]
  refine wpAny_bind (wpAny_rule (wpAny_bind (wpAny_field hz rfl (x := .ref TO) rfl (wpAny_bind (wpAny_setField_rec hz (by simp) fun g1 q1 e1 => ?_)))))
  replace q1 : IsZip g1 z TI TO .ellipsis := q1
  refine wpAny_bind ?_; simp only [List.zipIdx_cons, List.zipIdx_nil, List.forIn_cons, List.forIn_nil]
  refine wpAny_bind (wpAny_bind (wpAny_onRaise ?_)); refine (show wpAny _ _ (Builtin.SmallTypes.nextOf (.ref i1) >>= _) _ _ _ from ?_)
  cases hx : xs[k]? with
  | none =>
    refine wpAny_bind (C1.over _ _ _ _ k hh (cur_to C1 h1 e1 D.a3 D.b2) hx fun g2 e e2 he => ?_)
    obtain ⟨oe, h3, h4⟩ := he
    have q2 : IsZip g2 z TI TO .ellipsis := e2 _ _ D.a3.symm q1
    have ne : e ≠ z := fun u => by subst u; rw [q2] at h3; cases h3; simp at h4
    exact wpAny_setField_rec q2 (by simp) fun g3 _ e3 => hE g3 e (fun c o n1 _ n3 _ q => e3.extBut _ _ n1 (e2 _ _ n3 (e1.extBut _ _ n1 q))) ⟨oe, e3.extBut _ _ ne h3, h4⟩
  | some x =>
    have hy : ys[k]? = none := by rcases hend with u | u; rw [hx] at u; cases u; exact u
    refine wpAny_bind (C1.draw _ _ _ _ k x (cur_to C1 h1 e1 D.a3 D.b2) hx fun g2 c1 e2 => wpAny_pure ?_)
    have p2 : IsPair g2 TO a b := e2.extBut _ _ D.a8 (e1.extBut _ _ D.a2 hTO)
    refine wpAny_bind (wpAny_seqItems p2 rfl (wpAny_bind (wpAny_updateSeq_pair p2 fun g3 p3 e3 => wpAny_bind (wpAny_letGo (wpAny_pure ?_)))))
    have d2 : S2 k g3 := cur_to C2 (cur_to C2 (cur_to C2 h2 e1 D.a4 D.b6) e2 D.b1.symm D.b8) e3 D.a9.symm D.b7
    refine wpAny_bind (wpAny_bind (wpAny_onRaise ?_)); refine (show wpAny _ _ (Builtin.SmallTypes.nextOf (.ref i2) >>= _) _ _ _ from wpAny_bind (C2.over _ _ _ _ k hh d2 hy fun g4 e e4 he => ?_))
    obtain ⟨oe, h3, h4⟩ := he
    have q4 : IsZip g4 z TI TO .ellipsis := e4 _ _ D.a4.symm (e3.extBut _ _ D.a2.symm (e2.extBut _ _ D.a3.symm q1))
    have ne : e ≠ z := fun u => by subst u; rw [q4] at h3; cases h3; simp at h4
    exact wpAny_setField_rec q4 (by simp) fun g5 _ e5 => hE g5 e (fun c o n1 n2 n3 n4 q => e5.extBut _ _ n1 (e4 _ _ n4 (e3.extBut _ _ n2 (e2.extBut _ _ n3 (e1.extBut _ _ n1 q))))) ⟨oe, e5.extBut _ _ ne h3, h4⟩
end
end
end L3
namespace L3
open PySem PySem.Spec PyProof.Rows L2
section
variable {X : Cx} {pins : List (Addr × Obj)} {σ : L2.St} {H : Hp} {s : Shared} {h' : Heap}
/-- untracked records of ours have turned -/
theorem turnedL {t' : Nat} {L : List Addr} (I : Inv X pins σ H s) (k : ∀ b o, b ∉ L → s.heap.get? b = some o → h'.get? b = some o) (hf : ∀ b ∈ L, FpOk X pins H b) : Inv X pins σ H { s with heap := h', toks := t' } := by
  have nit : ∀ b u, H b = some u → b ∉ L := fun b u e z => by rw [(hf b z).1] at e; cases e
  have nl : X.env.locals ∉ L := fun z => (hf _ z).2.1 rfl
  refine I.step (g' := s.gens) (d' := s.drawn) (ch := L) (fun b hb => ?_) (fun b o _ _ hc e _ => k b o hc e) (fun b o _ _ hc e _ => ⟨o.slots, k b o hc e⟩) (fun _ _ _ _ n => n)
    (fun b o hc e => ⟨o, k b o hc e⟩) (fun _ _ e => e) (fun _ _ _ e => e) (fun b ps e => ⟨#[], by rw [e]; simp⟩) (fun m hm => ?_) (fun b u e => ?_) I.bare
  · obtain ⟨f0, f1, f2, f3, f4, f5⟩ := hf b hb
    exact ⟨f3, f1, f4, f5⟩
  · obtain ⟨o, es, ep, ho, r⟩ := hm
    exact ⟨o, es, ep, k _ o nl ho, r⟩
  · refine (I.hok b u e).stay (fun c v hc q => k c v ?_ q) (fun _ q => q) fun _ _ q => q
    rcases hc with z | z
    · rw [z]; exact nit b u e
    · exact nit c _ z
end
section
variable {prog : Program} {w : World} {A : Around} {E : Value → Shared → Prop} {s : Shared} {z TI TO i1 i2 t1 t2 : Addr} {xs ys : Array Value} {k : Nat}
abbrev TS1 (i1 t1 : Addr) (xs : Array Value) : Nat → Heap → Prop := fun i h => h.IsTupleIter i1 t1 i ∧ h.IsTuple t1 xs
theorem zipT_next {x y a b : Value} {Q : Option Value → Shared → Prop} (D : Apart z TI TO i1 i2 t1 t2) (hz : IsZip s.heap z TI TO .none) (hTI : IsPair s.heap TI (.ref i1) (.ref i2)) (hTO : IsPair s.heap TO a b)
    (h1 : TS1 i1 t1 xs k s.heap) (h2 : TS1 i2 t2 ys k s.heap) (hx : xs[k]? = some x) (hy : ys[k]? = some y)
    (hQ : ∀ h', IsZip h' z TI TO (rawInt s.heap.objs.size) → IsPair h' TO x y → TS1 i1 t1 xs (k + 1) h' → TS1 i2 t2 ys (k + 1) h' → IsPair h' s.heap.objs.size x y → (∀ c o, c ≠ z → c ≠ TO → c ≠ i1 → c ≠ i2 → s.heap.get? c = some o → h'.get? c = some o) → Q (some (.ref s.heap.objs.size)) { s with heap := h' }) :
    wpAny (model prog w) A (pyNext (.ref z)) Q E s := by
  have ty : s.TypeIs (.ref z) "zip" := ⟨_, hz, rfl⟩
  unfold pyNext
  exact wpAny_bind (wpAny_attempt (wpAny_callSpecial?_slot (name := Str.ofString "__next__") ty PySem.F.slot_zip_next (wpAny_call_entry PySem.F.slot_zip_next ty PySem.F.entry_zip_next
    (zip_draw D (cursor_tuple i1 t1 xs D.b4) (cursor_tuple i2 t2 ys D.b9) hz hTI hTO h1 h2 hx hy fun h' q1 q2 q3 q4 q5 q6 => wpAny_pure (hQ h' q1 q2 q3 q4 q5 q6)) (PySem.F.args_zip_next_1 _))))
theorem zipT_end {a b : Value} {Q : Option Value → Shared → Prop} (hh : A.handled = none) (D : Apart z TI TO i1 i2 t1 t2) (hz : IsZip s.heap z TI TO .none) (hTI : IsPair s.heap TI (.ref i1) (.ref i2)) (hTO : IsPair s.heap TO a b)
    (h1 : TS1 i1 t1 xs k s.heap) (h2 : TS1 i2 t2 ys k s.heap) (hend : xs[k]? = none ∨ ys[k]? = none)
    (hQ : ∀ h', (∀ c o, c ≠ z → c ≠ TO → c ≠ i1 → c ≠ i2 → s.heap.get? c = some o → h'.get? c = some o) → Q none { s with heap := h' }) : wpAny (model prog w) A (pyNext (.ref z)) Q E s := by
  have ty : s.TypeIs (.ref z) "zip" := ⟨_, hz, rfl⟩
  unfold pyNext
  refine wpAny_bind (wpAny_attempt (wpAny_callSpecial?_slot (name := Str.ofString "__next__") ty PySem.F.slot_zip_next (wpAny_call_entry PySem.F.slot_zip_next ty PySem.F.entry_zip_next
    (zip_over hh D (cursor_tuple i1 t1 xs D.b4) (cursor_tuple i2 t2 ys D.b9) hz hTI hTO h1 h2 hend fun h' e kp he => ?_) (PySem.F.args_zip_next_1 _))))
  obtain ⟨o, ho, hc⟩ := he
  exact wpAny_bind (wpAny_isInstance (T := "StopIteration") (b := true) ⟨o, ho, hc⟩ isSubtype_stop (wpAny_pure (hQ _ kp)))
abbrev zT1 (h : Heap) (a : Addr) : Heap := h.push { cls := .type "tuple_iterator", data := .fields #[.ref a, .int 0 0] }
abbrev zT3 (h : Heap) (a b : Addr) : Heap := (zT1 (zT1 h a) b).push { cls := .type "tuple", data := .seq #[.ref h.objs.size, .ref (zT1 h a).objs.size] }
abbrev zT4 (h : Heap) (a b : Addr) : Heap := (zT3 h a b).push { cls := .type "tuple", data := .seq #[.none, .none] }
abbrev zT5 (h : Heap) (a b : Addr) : Heap := (zT4 h a b).push { cls := .type "zip", data := .fields #[.none, .bool false, .bool false, .ref (zT1 (zT1 h a) b).objs.size, .ref (zT3 h a b).objs.size] }
theorem tup_push {h : Heap} {a : Addr} {us : Array Value} (o : Obj) (t : h.IsTuple a us) : (h.push o).IsTuple a us := by
  obtain ⟨p, e, r⟩ := t
  exact ⟨p, Heap.get?_push_of_some _ e, r⟩
theorem meets_zipT (a b : Addr) (xs ys : Array Value) :
    Meets (Builtin.«zip.__new__» ⟨[.type "zip", .ref a, .ref b], []⟩) (fun _ R s => (s.heap.IsTuple a xs ∧ s.heap.IsTuple b ys) ∧ R (.ok (.ret (.ref (zT4 s.heap a b).objs.size))) { s with heap := zT5 s.heap a b }) :=
  .of_wp fun prog w A R s h => by
    obtain ⟨hp, g, d, tk, os⟩ := s
    obtain ⟨⟨e1, e2⟩, h⟩ := h
    have sub := sub_zip
    have f1 : Heap.IsTuple (Shared.heap ⟨hp, g, d, tk, os⟩) a xs := e1
    have f2 : Heap.IsTuple (Shared.heap ⟨zT1 hp a, g, d, tk, os⟩) b ys := tup_push _ e2
    wp_walk using wpAny_pyIter_tuple f1, wpAny_pyIter_tuple f2
    exact ⟨_, rfl, h⟩
theorem call_zipT {a b : Addr} {Q : Value → Shared → Prop} (e1 : s.heap.IsTuple a xs) (e2 : s.heap.IsTuple b ys)
    (h : ∀ h', IsZip h' (s.heap.objs.size + 4) (s.heap.objs.size + 2) (s.heap.objs.size + 3) .none → IsPair h' (s.heap.objs.size + 2) (.ref s.heap.objs.size) (.ref (s.heap.objs.size + 1)) → IsPair h' (s.heap.objs.size + 3) .none .none →
      h'.IsTupleIter s.heap.objs.size a 0 → h'.IsTupleIter (s.heap.objs.size + 1) b 0 → (∀ c o, s.heap.get? c = some o → h'.get? c = some o) → Q (.ref (s.heap.objs.size + 4)) { s with heap := h' }) :
    wpAny (model prog w) A (call (.type "zip") [.ref a, .ref b]) Q E s := by
  refine callType_new PySem.F.called_zip (by decide) (PySem.F.typeCall_zip_2 _ _) (PySem.F.newCall_zip_2 _ _) (fun obj => PySem.F.args_object_init_3 obj _ _) PySem.F.entry_zip_new (meets_zipT a b xs ys) ⟨⟨e1, e2⟩, ?_⟩
  have n1 : (zT1 s.heap a).objs.size = s.heap.objs.size + 1 := Heap.size_push ..
  have n2 : (zT1 (zT1 s.heap a) b).objs.size = s.heap.objs.size + 2 := by rw [Heap.size_push, n1]
  have n3 : (zT3 s.heap a b).objs.size = s.heap.objs.size + 3 := by rw [Heap.size_push, n2]
  have n4 : (zT4 s.heap a b).objs.size = s.heap.objs.size + 4 := by rw [Heap.size_push, n3]
  have m5 : (zT5 s.heap a b).get? (zT4 s.heap a b).objs.size = some _ := Heap.get?_push_size _ rfl
  have m4 : (zT5 s.heap a b).get? (zT3 s.heap a b).objs.size = some _ := Heap.get?_push_of_some _ (Heap.get?_push_size _ rfl)
  have m3 : (zT5 s.heap a b).get? (zT1 (zT1 s.heap a) b).objs.size = some _ := Heap.get?_push_of_some _ (Heap.get?_push_of_some _ (Heap.get?_push_size _ rfl))
  have m2 : (zT5 s.heap a b).get? (zT1 s.heap a).objs.size = some _ := Heap.get?_push_of_some _ (Heap.get?_push_of_some _ (Heap.get?_push_of_some _ (Heap.get?_push_size _ rfl)))
  have m1 : (zT5 s.heap a b).get? s.heap.objs.size = some _ := Heap.get?_push_of_some _ (Heap.get?_push_of_some _ (Heap.get?_push_of_some _ (Heap.get?_push_of_some _ (Heap.get?_push_size _ rfl))))
  refine (show _ ∧ _ from ?_)
  rw [n2, n3, n4] at m5
  rw [n1, n2] at m3
  rw [n3] at m4
  rw [n1] at m2
  rw [n4]
  exact ⟨⟨_, m5, rfl⟩, h _ m5 m3 m4 ⟨_, m1, rfl, rfl⟩ ⟨_, m2, rfl, rfl⟩ fun c o x => Heap.get?_push_of_some _ (Heap.get?_push_of_some _ (Heap.get?_push_of_some _ (Heap.get?_push_of_some _ (Heap.get?_push_of_some _ x))))⟩
end
/-- pairs of two tuples' items -/
def Itz (K : PySem.W.Frag) (t1 t2 : Addr) : It := ⟨fun i H => ∃ xs ys a b, SqT K H t1 xs ∧ SqT K H t2 ys ∧ xs[i]? = some a ∧ ys[i]? = some b,
  fun i H x H' => ∃ T a b, x = .ref T ∧ H T = none ∧ H' = upd H T (.tup [a, b]) ∧ ∀ xs ys, SqT K H t1 xs → SqT K H t2 ys → xs[i]? = some a ∧ ys[i]? = some b,
  fun i H => ∃ xs ys, SqT K H t1 xs ∧ SqT K H t2 ys ∧ (xs.length ≤ i ∨ ys.length ≤ i)⟩
theorem turn_zip {P : Program} {w : World} {K : PySem.W.Frag} {es : List Expr} {x1 : Nat} {tpos : Pos} {z TI TO i1 i2 t1 t2 : Addr} (D : Apart z TI TO i1 i2 t1 t2) :
    Turn P w K (.Tuple es x1 tpos) (Itz K t1 t2) [z, TI, TO, i1, i2] z (fun i h => IsZip h z TI TO .none ∧ IsPair h TI (.ref i1) (.ref i2) ∧ (∃ a b, IsPair h TO a b) ∧ h.IsTupleIter i1 t1 i ∧ h.IsTupleIter i2 t2 i) where
  mem := by simp
  obj := fun i h st b hb => by
    obtain ⟨q1, q2, ⟨a, c, q3⟩, ⟨o1, e1, _, d1⟩, ⟨o2, e2, _, d2⟩⟩ := st
    simp only [List.mem_cons, List.not_mem_nil, or_false] at hb
    rcases hb with rfl | rfl | rfl | rfl | rfl
    · exact ⟨_, q1, fun v u => nomatch u⟩
    · exact ⟨_, q2, fun v u => nomatch u⟩
    · exact ⟨_, q3, fun v u => nomatch u⟩
    · exact ⟨_, e1, fun v u => by rw [d1] at u; cases u⟩
    · exact ⟨_, e2, fun v u => by rw [d2] at u; cases u⟩
  keep := fun i h h' st kp => by
    obtain ⟨q1, q2, ⟨a, c, q3⟩, q4, q5⟩ := st
    exact ⟨kp z (by simp) _ q1, kp TI (by simp) _ q2, ⟨a, c, kp TO (by simp) _ q3⟩, q4.at fun o e => kp i1 (by simp) o e, q5.at fun o e => kp i2 (by simp) o e⟩
  item := by
    intro X hP hw hK hc i pins s σ H E I hf st hg
    subst hP hw hK
    obtain ⟨q1, q2, ⟨a0, c0, q3⟩, q4, q5⟩ := st
    obtain ⟨xs, ys, a, b, hx, hy, ex, ey⟩ := hg
    obtain ⟨us, ru, pu, zu⟩ := I.tuple hx
    obtain ⟨vs, rv, pv', zv⟩ := I.tuple hy
    obtain ⟨u, eu, ra⟩ := ru.get ex
    obtain ⟨v, ev, rb⟩ := rv.get ey
    refine zipT_next D q1 q2 q3 ⟨q4, pu⟩ ⟨q5, pv'⟩ (x := u) (y := v) (by simpa using eu) (by simpa using ev) fun h' g1 g2 g3 g4 g5 kp => ⟨_, rfl, ?_⟩
    refine wpAny_letOwnedTupleGo_zip (s := { s with heap := h' }) g1 fun h2 hz2 sb => ?_
    have lt : ∀ {c o}, s.heap.get? c = some o → s.heap.objs.size ≠ c := fun e => Nat.ne_of_gt (Heap.lt_size e)
    have kp2 : ∀ c o, c ∉ [z, TI, TO, i1, i2] → s.heap.get? c = some o → h2.get? c = some o := fun c o n e => by
      simp only [List.mem_cons, List.not_mem_nil, or_false, not_or] at n
      exact sb.extBut _ _ n.1 (kp c o n.1 n.2.2.1 n.2.2.2.1 n.2.2.2.2 e)
    have I1 : Inv X pins σ H { s with heap := h2 } := turnedL (t' := s.toks) I kp2 hf
    have T2 : IsPair h2 s.heap.objs.size u v := sb.extBut _ _ (lt q1) g5
    have sN : s.heap.get? s.heap.objs.size = none := Heap.get?_none_of_le (Nat.le_refl _)
    have hN : H s.heap.objs.size = none := I.hok.fresh (Nat.le_refl _)
    have I2 : Inv X pins σ (upd H s.heap.objs.size (.tup [a, b])) { s with heap := h2 } := inv_track I1 (Heap.get?_none_of_le I.sz) (Nat.ne_of_gt I.lt)
      (fun y c ec => by obtain ⟨_, o, ho, _⟩ := I.cell y c ec; exact Ne.symm (lt ho)) (fun p hp => Ne.symm (lt (I.pin p hp).1)) hN
      ⟨few (by show 2 ≤ _; omega), [u, v], .cons ra (.cons rb .nil), ⟨_, T2, rfl, 0, rfl⟩⟩
    refine ⟨.ref s.heap.objs.size, _, I2, rfl, ⟨_, a, b, rfl, hN, rfl, fun xs' ys' hx' hy' => ?_⟩, ⟨hz2, ?_, ?_, ?_, ?_⟩, fun c hc => ?_⟩
    · rw [I.tuple_inj hx' hx, I.tuple_inj hy' hy]; exact ⟨ex, ey⟩
    · exact sb.extBut _ _ D.a1 (kp _ _ D.a1 D.a5 D.a6 D.a7 q2)
    · exact ⟨_, _, sb.extBut _ _ D.a2 g2⟩
    · exact g3.1.extBut sb.extBut D.a3
    · exact g4.1.extBut sb.extBut D.a4
    · have ne : c ≠ s.heap.objs.size := by
        simp only [List.mem_cons, List.not_mem_nil, or_false] at hc
        obtain ⟨o1, e1, _⟩ := q4
        obtain ⟨o2, e2, _⟩ := q5
        rcases hc with rfl | rfl | rfl | rfl | rfl
        · exact Ne.symm (lt q1)
        · exact Ne.symm (lt q2)
        · exact Ne.symm (lt q3)
        · exact Ne.symm (lt e1)
        · exact Ne.symm (lt e2)
      rw [upd_ne ne]; exact (hf c hc).1
  done := by
    intro X hP hw hK hc i pins s σ H E I hf st hg
    subst hP hw hK
    obtain ⟨q1, q2, ⟨a0, c0, q3⟩, q4, q5⟩ := st
    obtain ⟨xs, ys, hx, hy, he⟩ := hg
    obtain ⟨us, ru, pu, zu⟩ := I.tuple hx
    obtain ⟨vs, rv, pv', zv⟩ := I.tuple hy
    have l1 := ru.length
    have l2 := rv.length
    refine zipT_end (I.ok.hd hc) D q1 q2 q3 ⟨q4, pu⟩ ⟨q5, pv'⟩ ?_ fun h' kp => ⟨rfl, turnedL (t' := s.toks) I (fun c o n e => ?_) hf⟩
    · rcases he with he | he
      · exact .inl (by simp; omega)
      · exact .inr (by simp; omega)
    · simp only [List.mem_cons, List.not_mem_nil, or_false, not_or] at n
      exact kp c o n.1 n.2.2.1 n.2.2.2.1 n.2.2.2.2 e
  self := fun _ _ _ _ _ st h => wpAny_pyIter_zip st.1 h
theorem apart_mk {n t1 t2 : Nat} (h1 : t1 < n) (h2 : t2 < n) : Apart (n + 4) (n + 2) (n + 3) n (n + 1) t1 t2 :=
  { a1 := (by omega : (n + 2 : Nat) ≠ n + 4), a2 := (by omega : (n + 3 : Nat) ≠ n + 4), a3 := (by omega : (n : Nat) ≠ n + 4), a4 := (by omega : (n + 1 : Nat) ≠ n + 4), a5 := (by omega : (n + 2 : Nat) ≠ n + 3)
    a6 := (by omega : (n + 2 : Nat) ≠ n), a7 := (by omega : (n + 2 : Nat) ≠ n + 1), a8 := (by omega : (n + 3 : Nat) ≠ n), a9 := (by omega : (n + 3 : Nat) ≠ n + 1), b1 := (by omega : (n : Nat) ≠ n + 1)
    b2 := (by omega : (t1 : Nat) ≠ n + 4), b3 := (by omega : (t1 : Nat) ≠ n + 3), b4 := (by omega : (t1 : Nat) ≠ n), b5 := (by omega : (t1 : Nat) ≠ n + 1)
    b6 := (by omega : (t2 : Nat) ≠ n + 4), b7 := (by omega : (t2 : Nat) ≠ n + 3), b8 := (by omega : (t2 : Nat) ≠ n), b9 := (by omega : (t2 : Nat) ≠ n + 1) }
section
variable {X : Cx} {es : List Expr} {x1 : Nat} {tpos : Pos}
def iZip (K : PySem.W.Frag) (ta : TA) : TI := fun σ H R => ta σ H fun vs H1 => ∃ t1 t2 : Addr, vs = [.ref t1, .ref t2] ∧ (∃ xs, SqT K H1 t1 xs) ∧ (∃ ys, SqT K H1 t2 ys) ∧ R (Itz K t1 t2) H1
theorem pi_zip {a b : Expr} {ta : TA} {p pos : Pos} (hg : Gl X "zip") (hm : X.mg "zip" = none) (ha : PA X [a, b] ta) (hs : starEach [a, b] X.env = [(false, eval a X.env), (false, eval b X.env)] := by rfl) (hs2 : starEach [b] X.env = [(false, eval b X.env)] := by rfl) :
    PI X (.Tuple es x1 tpos) (.Call (.Name "zip" p) [a, b] [] pos) (iZip X.K ta) := by
  intro pins s σ H R I h
  refine Call_ (ld_blt I hg hm PyProof.Rows.boot_zip (PyProof.Rows.callWith_type1 (thn (ha pos pins s σ H _ I h) fun us s1 ⟨vs, H1, I1, r1, q1⟩ => ?_) (by rw [hs, hs2]) (by rw [hs2]; rfl)))
  obtain ⟨t1, t2, e, ⟨xs, hx⟩, ⟨ys, hy⟩, q⟩ := q1
  subst e
  obtain ⟨u1, u2, rfl, r1', r2'⟩ := r1.two
  cases r1'; cases r2'
  obtain ⟨us, ru, pu, zu⟩ := I1.tuple hx
  obtain ⟨vs, rv, pv', zv⟩ := I1.tuple hy
  refine call_zipT pu pv' fun h' g1 g2 g3 g4 g5 kp => ?_
  refine wpAny_pyIter_zip (s := { s1 with heap := h' }) g1 ?_
  have lt1 : t1 < s1.heap.objs.size := by obtain ⟨_, e, _⟩ := pu; exact Heap.lt_size e
  have lt2 : t2 < s1.heap.objs.size := by obtain ⟨_, e, _⟩ := pv'; exact Heap.lt_size e
  have D : Apart (s1.heap.objs.size + 4) (s1.heap.objs.size + 2) (s1.heap.objs.size + 3) s1.heap.objs.size (s1.heap.objs.size + 1) t1 t2 := apart_mk lt1 lt2
  refine ⟨_, _, _, Itz X.K t1 t2, H1, rfl, I1.kept (t' := s1.toks) kp, turn_zip D, ⟨g1, g2, ⟨_, _, g3⟩, g4, g5⟩, fun b hb => ?_, q⟩
  have hb' : s1.heap.objs.size ≤ b := by
    simp only [List.mem_cons, List.not_mem_nil, or_false] at hb
    rcases hb with rfl | rfl | rfl | rfl | rfl
    · exact Nat.le_add_right _ _
    · exact Nat.le_add_right _ _
    · exact Nat.le_add_right _ _
    · exact Nat.le_refl _
    · exact Nat.le_add_right _ _
  exact I1.fpOk hb' (I1.hok.fresh hb')
/-! ### sum, list.index, a dict of the module -/
theorem call_sum (hc : X.calm = true) : CallR X (.builtin "sum") (fun xs H Q => ∃ (p : Addr) (ns : List Int), xs = [.ref p] ∧ SqL X.K H p (ns.map V.int) ∧ Q (.int ns.sum) H) := by
  intro pins s σ H xs us Q I r h
  obtain ⟨p, ns, rfl, hq, q⟩ := h
  obtain ⟨u, rfl, ru⟩ := r.one
  cases ru
  obtain ⟨its, rv, hp, hz⟩ := I.list hq
  have hlt : p < s.heap.objs.size := by obtain ⟨_, e, _⟩ := hp.isList; exact Heap.lt_size e
  have el : its.toArray.size = ns.length := by rw [List.size_toArray, ← rv.length, List.length_map]
  refine call_sum_walkG (wpAny_pyIter_list hp.isList ?_)
  refine ⟨s.heap.objs.size, [s.heap.objs.size, p], [s.heap.objs.size], its.toArray.size, _, _, fun i => ns.getD i 0, rfl, Walks.list (A := X.A.in1) (I.ok.hd hc) _ _ (Nat.ne_of_lt hlt) its.toArray, ⟨⟨_, Heap.get?_push_size _ rfl, rfl, rfl⟩, hp.isList.push _⟩, ?_, ?_, ?_⟩
  · intro b hb
    simp only [List.mem_cons, List.not_mem_nil, or_false] at hb
    rw [Heap.size_push]
    rcases hb with rfl | rfl
    · exact Nat.lt_succ_self _
    · exact Nat.lt_succ_of_lt hlt
  · intro i v hv
    have hv' : its[i]? = some v := by simpa using hv
    have hi : i < ns.length := by
      have := (List.getElem?_eq_some_iff.mp hv').1
      rw [← el, List.size_toArray]; exact this
    obtain ⟨u, hu, ru⟩ := rv.get (i := i) (x := V.int ns[i]) (by rw [List.getElem?_map, List.getElem?_eq_getElem hi]; rfl)
    rw [hv'] at hu; cases hu
    obtain ⟨t, rfl⟩ := ru
    exact ⟨t, by show Value.int ns[i] t = Value.int (ns.getD i 0) t; rw [List.getD_eq_getElem?_getD, List.getElem?_eq_getElem hi]; rfl⟩
  · intro h' tk t' hk
    rw [el, preSum_getD, List.take_length]
    exact ⟨.int _, H, I.kept fun b o e => hk b o (fun z => absurd (Heap.lt_size e) (by rw [List.mem_singleton.mp z]; exact Nat.lt_irrefl _)) (Heap.get?_push_of_some _ e), ⟨_, rfl⟩, q⟩
/-- list.index of a text in a list of texts -/
def rIxOf : V → List V → Hp → VK → Prop := fun x vs H Q => ∃ (l : Addr) (ws : List Str) (z : Str) (j : Nat), x = .ref l ∧ vs = [.str z] ∧ H l = some (.lst (ws.map V.str)) ∧ ws[j]? = some z ∧ (∀ m, m < j → ws[m]? ≠ some z) ∧ ws.length ≤ 1000 ∧ Q (.int (j : Nat)) H
theorem mt_indexL : MtM X "list.index" rIxOf := by
  intro pins s σ H x vs v us Q I rx rv h
  obtain ⟨l, ws, z, j, rfl, rfl, hH, hj, hno, hw, q⟩ := h
  cases rx
  obtain ⟨u, rfl, ru⟩ := rv.one
  obtain ⟨t, rfl⟩ := ru
  obtain ⟨zz, its, n, r, hl, e⟩ := I.lstM hH
  have hjl : j < ws.length := (List.getElem?_eq_some_iff.mp hj).1
  have hits : its.length = ws.length := by rw [← hl, List.length_map]
  have at' : ∀ m (hm : m < its.length), ∃ (y : Str) (ty : Tok), its[m] = .str y ty ∧ ws[m]? = some y := fun m hm => by
    have hm' : m < ws.length := by omega
    obtain ⟨u, eu, ru⟩ := r.get (i := m) (x := V.str ws[m]) (by rw [List.getElem?_map, List.getElem?_eq_getElem hm']; rfl)
    rw [List.getElem?_eq_getElem hm] at eu
    cases eu
    obtain ⟨ty, ety⟩ := ru
    exact ⟨ws[m], ty, ety, List.getElem?_eq_getElem hm'⟩
  have flat : (ws.map V.str).all flatV = true := by rw [List.all_map, List.all_eq_true]; exact fun _ _ => rfl
  refine call_meets PySem.F.slot_list_index ⟨_, e, rfl⟩ PySem.F.entry_list_index (PySem.F.args_list_index_2 _ _)
    (SeqAt.list_indexAt l its.toArray n none #[] (.str z t) (eqU (.str z)) j (by rw [List.size_toArray]; omega) (by omega) ?_ ?_) ⟨e, fun y hy => mem_eqAt (x := .str z) (v := .str z t) ⟨t, rfl⟩ rfl r flat y (by simpa using hy), ⟨.int _, H, I.tok _, ⟨_, rfl⟩, q⟩⟩
  · obtain ⟨y, ty, e1, e2⟩ := at' j (by omega)
    rw [List.getElem_toArray, e1]
    rw [hj] at e2
    cases e2
    show (z == z) = true
    simp
  · intro m hm hmj
    rw [List.size_toArray] at hm
    obtain ⟨y, ty, e1, e2⟩ := at' m hm
    rw [List.getElem_toArray, e1]
    show (y == z) = false
    have : y ≠ z := fun q => hno m hmj (by rw [e2, q])
    simp [this]
theorem ix_dictM {K : PySem.W.Frag} (hK : X.K = K) {a : Addr} {es : Array DictEntry} {n : Nat} (hl : K.lookup a = some ⟨.type "dict", none, .dict es n, #[]⟩) (hk : PySem.W.KeysLit X.w.params es.toList) :
    IxR X (fun x y H Q => ∃ (z : Str) (v : V) (u : Value), x = .ref a ∧ y = .str z ∧ PySem.W.nsIn K a z = some (some u) ∧ RelV v u ∧ Q v H) := by
  subst hK
  intro value slice pins s σ H x y v u Q I rx ry h hs
  obtain ⟨z, v', u', rfl, rfl, e, rv, q⟩ := h
  cases rx
  obtain ⟨t, rfl⟩ := ry
  have hm := PySem.W.mapOf_K (prog := X.prog) I.kIn hl hk
  exact tail_any hm.typeIs PySem.F.slot_dict_getitem.lookup (wpAny_getItem_of (strKind_is X.prog X.w z t) hm (PySem.W.find_K hl e) ⟨v', H, I.tok _, rv, q⟩) hs
end
end L3

set_option Elab.async false
set_option linter.all false
set_option maxRecDepth 100000
set_option maxHeartbeats 4000000
/-! ITEMS with a comma and a blank between; slips as texts. -/
namespace L3
open PySem PySem.Spec PyProof.Rows L2
section
variable {X : Cx}
theorem passE {P : Program} {w : World} {X : Cx} : Passes (CXv P w) X E0 := fun _ _ _ _ _ _ _ h => by
  obtain ⟨_, _, _, _, _, _, _, _, _, _, _, _, _, _, hE⟩ := h
  exact False.elim hE
theorem call_str_any : CallR X (.type "str") (fun xs H Q => (∃ i, xs = [.int i] ∧ i.natAbs.log2 < 1920 ∧ Q (.str (toString i)) H) ∨ ∃ z, xs = [.str z] ∧ Q (.str z) H) := by
  intro pins s σ H xs us Q I r h
  rcases h with ⟨i, rfl, hz, q⟩ | ⟨z, rfl, q⟩
  · obtain ⟨u, rfl, t, rfl⟩ := vals1 r
    exact PySem.P.str_of_int hz ⟨.str _, H, I.tok _, ⟨_, rfl⟩, q⟩
  · obtain ⟨u, rfl, t, rfl⟩ := vals1 r
    exact PySem.P.str_of_str ⟨.str _, H, I, ⟨_, rfl⟩, q⟩
end
def eqL : List V → List V → Bool
  | [], [] => true
  | x :: xs, y :: ys => eqV x y && eqL xs ys
  | _, _ => false
theorem eqL_eq : ∀ xs ys : List V, (decide (xs.length = ys.length) && (List.range xs.length).all fun i => eqV (xs.getD i .non) (ys.getD i .non)) = eqL xs ys
  | [], [] => rfl
  | [], y :: ys => by simp [eqL]
  | x :: xs, [] => by simp [eqL]
  | x :: xs, y :: ys => by
    have ih := eqL_eq xs ys
    rw [List.length_cons, List.length_cons, List.range_succ_eq_map, List.all_cons, List.all_map]
    have e : decide (xs.length + 1 = ys.length + 1) = decide (xs.length = ys.length) := decide_eq_decide.mpr (by omega)
    rw [e]
    show (decide (xs.length = ys.length) && (eqV x y && (List.range xs.length).all fun i => eqV (xs.getD i .non) (ys.getD i .non))) = (eqV x y && eqL xs ys)
    rw [← ih]
    exact Bool.and_left_comm _ _ _
theorem EqS.flats {K : PySem.W.Frag} {H : Hp} {p r : Addr} {xs ys : List V} (h : (SqL K H p xs ∧ SqL K H r ys) ∨ (SqT K H p xs ∧ SqT K H r ys)) (hx : xs.all flatV = true) (hy : ys.all flatV = true) : EqS K H 0 (.ref p) (.ref r) (eqL xs ys) := by
  refine ⟨p, r, xs, ys, fun i => eqV (xs.getD i .non) (ys.getD i .non), rfl, rfl, h, fun i x y ex ey => ?_, (eqL_eq xs ys).symm⟩
  refine ⟨List.all_eq_true.mp hx x (List.mem_of_getElem? ex), List.all_eq_true.mp hy y (List.mem_of_getElem? ey), ?_⟩
  show eqV (xs[i]?.getD .non) (ys[i]?.getD .non) = _
  rw [ex, ey]; rfl
end L3
namespace Vm
open PySem PySem.Spec PyProof.Rows L2 L3
section
open PySem.StrLaws Builtin Builtin.Str
/-! ### items with a comma and a blank between -/
def joinC : List (List Nat) → List Nat
  | [] => []
  | [l] => l
  | l :: m :: r => l ++ 44 :: 32 :: joinC (m :: r)
def cutsC : Nat → List (List Nat) → List Nat
  | _, [] => []
  | _, [_] => []
  | a, l :: m :: r => (a + l.length) :: cutsC (a + l.length + 2) (m :: r)
def cm : Str := ⟨#[44, 32]⟩
def atC (x : Str) (i : Nat) : Bool := decide (i + 2 ≤ x.length) && subAt x cm i
theorem occC (x : Str) (lim : Nat) (hx : ∀ i, atC x i = true → atC x (i + 1) = false) : ∀ (n a : Nat) (arr : Array Nat) (free : Nat), (free ≤ a ∨ (free ≤ a + 1 ∧ atC x a = false)) → arr.size + n ≤ lim →
    (forIn (List.range' a n) (arr, free) (occBody x cm x.length lim)).run.fst.toList = arr.toList ++ (List.range' a n).filter (atC x)
  | 0, a, arr, free, _, _ => by simp
  | n + 1, a, arr, free, hf, hl => by
    rw [List.range'_succ, List.forIn_cons]
    unfold occBody
    have e2 : cm.length = 2 := rfl
    cases ha : atC x a with
    | true =>
      have hf' : free ≤ a := by
        rcases hf with z | z
        · exact z
        · rw [ha] at z; exact absurd z.2 (by decide)
      have h2 := Bool.and_eq_true_iff.mp ha
      have h3 := of_decide_eq_true h2.1
      rw [if_pos ⟨⟨⟨by show arr.size < lim; omega, hf'⟩, by rw [e2]; exact h3⟩, h2.2⟩, List.filter_cons_of_pos ha]
      have ih := occC x lim hx n (a + 1) (arr.push a) (a + cm.length) (.inr ⟨by rw [e2]; omega, hx a ha⟩) (by rw [Array.size_push]; omega)
      unfold occBody at ih
      refine Eq.trans ih ?_
      rw [Array.toList_push, List.append_assoc]
      rfl
    | false =>
      rw [if_neg ?_, List.filter_cons_of_neg (by rw [ha]; exact Bool.false_ne_true)]
      · have ih := occC x lim hx n (a + 1) arr free (.inl (by rcases hf with z | z <;> omega)) (by omega)
        unfold occBody at ih
        exact ih
      · rintro ⟨⟨_, h1⟩, h2⟩
        rw [e2] at h1
        have : atC x a = true := Bool.and_eq_true_iff.mpr ⟨decide_eq_true h1, h2⟩
        rw [ha] at this
        exact Bool.false_ne_true this
theorem occ_filter (x : Str) (hx : ∀ i, atC x i = true → atC x (i + 1) = false) : occurrences x cm 0 x.length (x.length + 1) = (List.range' 0 (x.length + 1)).filter (atC x) := by
  rw [occ_eq]
  have := occC x (x.length + 1) hx (x.length + 1) 0 #[] 0 (.inl (Nat.le_refl _)) (by simp)
  rw [show x.length + 1 - 0 = x.length + 1 from rfl, this]
  simp
theorem atC_iff (x : Str) (i : Nat) : atC x i = true ↔ (x.cps.toList.drop i).take 2 = [44, 32] := by
  unfold atC
  rw [Bool.and_eq_true_iff, subAt_eq, decide_eq_true_iff]
  have e2 : cm.length = 2 := rfl
  have e3 : cm.cps.toList = [44, 32] := rfl
  rw [e2, e3, beq_iff_eq]
  constructor
  · exact fun h => h.2
  · intro h
    refine ⟨?_, h⟩
    have h1 := congrArg List.length h
    rw [List.length_take, List.length_drop] at h1
    have h2 : x.cps.toList.length = x.length := by simp [Str.length]
    rw [h2] at h1
    have h3 : [44, 32].length = 2 := rfl
    rw [h3] at h1
    omega
theorem atC_get {x : Str} {i : Nat} (h : atC x i = true) : x.cps.toList[i]? = some 44 ∧ x.cps.toList[i + 1]? = some 32 := by
  have h := (atC_iff x i).mp h
  have h0 : ((x.cps.toList.drop i).take 2)[0]? = some 44 := by rw [h]; rfl
  have h1 : ((x.cps.toList.drop i).take 2)[1]? = some 32 := by rw [h]; rfl
  rw [List.getElem?_take, if_pos (by decide), List.getElem?_drop] at h0 h1
  exact ⟨h0, h1⟩
theorem atC_next (x : Str) : ∀ i, atC x i = true → atC x (i + 1) = false := fun i h => by
  cases h2 : atC x (i + 1) with
  | false => rfl
  | true =>
    have a := (atC_get h).2
    rw [(atC_get h2).1] at a
    cases a
/-- the cuts of items without a comma -/
theorem cuts_filter (x : Str) : ∀ (ls : List (List Nat)) (pre : List Nat), ls ≠ [] → (∀ l ∈ ls, 44 ∉ l) → x.cps.toList = pre ++ joinC ls → (List.range' pre.length (x.length + 1 - pre.length)).filter (atC x) = cutsC pre.length ls
  | [], _, h, _, _ => absurd rfl h
  | [l], pre, _, hc, hx => by
    show _ = []
    rw [List.filter_eq_nil_iff]
    · intro i hi h
      have h1 := (atC_get h).1
      rw [hx] at h1
      have hm := List.mem_range'.mp hi
      obtain ⟨k, hk, rfl⟩ := hm
      rw [List.getElem?_append_right (by omega)] at h1
      exact hc l List.mem_cons_self (List.mem_of_getElem? h1)
  | l :: m :: r, pre, _, hc, hx => by
    have hlen : x.length = (pre ++ joinC (l :: m :: r)).length := by rw [← hx]; simp [Str.length]
    have ej : joinC (l :: m :: r) = l ++ 44 :: 32 :: joinC (m :: r) := rfl
    rw [ej, List.length_append, List.length_append, List.length_cons, List.length_cons] at hlen
    have er : x.length + 1 - pre.length = l.length + (2 + (x.length + 1 - (pre ++ l ++ [44, 32]).length)) := by
      simp only [List.length_append, List.length_cons, List.length_nil]
      omega
    have ih := cuts_filter x (m :: r) (pre ++ l ++ [44, 32]) (fun e => nomatch e) (fun k hk => hc k (List.mem_cons_of_mem _ hk)) (by rw [hx, ej]; simp)
    have el : (pre ++ l ++ [44, 32]).length = pre.length + l.length + 2 := by simp; omega
    rw [er, ← List.range'_append_1, List.filter_append, ← List.range'_append_1, List.filter_append, ← el, ih, el]
    have f1 : (List.range' pre.length l.length).filter (atC x) = [] := by
      rw [List.filter_eq_nil_iff]
      intro i hi h
      have h1 := (atC_get h).1
      obtain ⟨k, hk, rfl⟩ := List.mem_range'.mp hi
      rw [hx, ej, List.getElem?_append_right (by omega), List.getElem?_append_left (by omega)] at h1
      exact hc l List.mem_cons_self (List.mem_of_getElem? h1)
    have f2 : (List.range' (pre.length + l.length) 2).filter (atC x) = [pre.length + l.length] := by
      have t1 : atC x (pre.length + l.length) = true := by
        rw [atC_iff, hx, ej, ← List.append_assoc, List.drop_append_of_le_length (by simp), List.drop_of_length_le (by simp)]
        rfl
      have t2 := atC_next x _ t1
      show List.filter (atC x) [pre.length + l.length, pre.length + l.length + 1] = _
      rw [List.filter_cons_of_pos t1, List.filter_cons_of_neg (by rw [t2]; exact Bool.false_ne_true)]
      rfl
    rw [f1, f2]
    rfl
theorem parts_C (x : Str) : ∀ (ls : List (List Nat)) (pre : List Nat), ls ≠ [] → x.cps.toList = pre ++ joinC ls → partsFrom x 2 pre.length (cutsC pre.length ls) = ls.map mkS
  | [], _, h, _ => absurd rfl h
  | [l], pre, _, hx => by
    show [strSub x pre.length x.length] = [mkS l]
    congr 1
    apply Str.ext'
    apply Array.toList_inj.mp
    rw [strSub_toList, mkS_list, hx, List.drop_left]
    exact List.take_of_length_le (by
      have hlen : x.length = (pre ++ joinC [l]).length := by rw [← hx]; simp [Str.length]
      rw [hlen, List.length_append]
      show l.length ≤ _
      have : joinC [l] = l := rfl
      rw [this]; omega)
  | l :: m :: r, pre, _, hx => by
    have ej : joinC (l :: m :: r) = l ++ 44 :: 32 :: joinC (m :: r) := rfl
    have ih := parts_C x (m :: r) (pre ++ l ++ [44, 32]) (fun e => nomatch e) (by rw [hx, ej]; simp)
    have el : (pre ++ l ++ [44, 32]).length = pre.length + l.length + 2 := by simp; omega
    rw [el] at ih
    show strSub x pre.length (pre.length + l.length) :: partsFrom x 2 (pre.length + l.length + 2) (cutsC (pre.length + l.length + 2) (m :: r)) = _
    rw [ih, List.map_cons]
    congr 1
    apply Str.ext'
    apply Array.toList_inj.mp
    rw [strSub_toList, mkS_list, hx, List.drop_left, ej, Nat.add_sub_cancel_left, List.take_left]
theorem kind_cm : Builtin.Str.strKind cm = 1 := by decide +kernel
theorem kind_pos (x : Str) : 1 ≤ Builtin.Str.strKind x := by
  unfold Builtin.Str.strKind
  split
  · exact Nat.le_refl _
  · split <;> decide
/-- items without a comma come back -/
theorem split_C {x : Str} {ls : List (List Nat)} (hn : ls ≠ []) (hc : ∀ l ∈ ls, 44 ∉ l) (hx : x.cps.toList = joinC ls) : Txt.split x cm = ls.map mkS := by
  have ho : occurrences x cm 0 x.length (x.length + 1) = cutsC 0 ls := by
    rw [occ_filter x (atC_next x)]
    exact cuts_filter x ls [] hn hc hx
  have hp := parts_C x ls [] hn hx
  have one : ∀ l, ls = [l] → [x] = ls.map mkS := fun l e => by
    rw [e, List.map_cons, List.map_nil]
    congr 1
    apply Str.ext'
    apply Array.toList_inj.mp
    rw [mkS_list, hx, e]; rfl
  unfold Txt.split
  rw [kind_cm]
  have h2 : decide (Builtin.Str.strKind x < 1) = false := decide_eq_false (by have := kind_pos x; omega)
  rw [h2, Bool.or_false]
  have e2 : cm.length = 2 := rfl
  cases ls with
  | nil => exact absurd rfl hn
  | cons l r =>
    cases r with
    | nil =>
      by_cases h1 : decide (x.length < cm.length) = true
      · rw [if_pos h1]; exact one l rfl
      · rw [if_neg h1, ho, if_pos (show (cutsC 0 [l]).isEmpty = true from rfl)]; exact one l rfl
    | cons m r =>
      have hlen : x.length = (joinC (l :: m :: r)).length := by rw [← hx]; simp [Str.length]
      have ej : joinC (l :: m :: r) = l ++ 44 :: 32 :: joinC (m :: r) := rfl
      rw [ej, List.length_append, List.length_cons, List.length_cons] at hlen
      rw [if_neg (fun h => by have := of_decide_eq_true h; rw [e2] at this; omega), ho, if_neg (by intro h; cases h), partsBetween_eq, e2]
      exact hp
theorem sjoin_C : ∀ ws : List Str, (Str.join cm ws).cps.toList = joinC (ws.map fun z => z.cps.toList)
  | [] => rfl
  | [z] => rfl
  | z :: y :: r => by
    have ih := sjoin_C (y :: r)
    show (z ++ cm ++ Str.join cm (y :: r)).cps.toList = z.cps.toList ++ 44 :: 32 :: joinC ((y :: r).map fun z => z.cps.toList)
    rw [← ih, app_list, app_list, List.append_assoc]
    rfl
theorem join_C (ws : List Str) : (Txt.join cm ws).cps.toList = joinC (ws.map fun z => z.cps.toList) := by
  rw [← sjoin_C]
  show (glued cm ws).cps.toList = _
  rw [StrLaws.glued_eq_join]
theorem cm_eq : Str.ofString ", " = cm := by decide +kernel
theorem split_join_C {ws : List Str} (hn : ws ≠ []) (hc : ∀ z ∈ ws, 44 ∉ z.cps.toList) : Txt.split (Txt.join (Str.ofString ", ") ws) (Str.ofString ", ") = ws := by
  rw [cm_eq, split_C (ls := ws.map fun z => z.cps.toList) (fun e => hn (List.map_eq_nil_iff.mp e)) (fun l hl => ?_) (join_C ws), List.map_map]
  · have : (mkS ∘ fun z : Str => z.cps.toList) = _root_.id := by funext z; exact str_mk z
    rw [this, List.map_id]
  · obtain ⟨z, hz, rfl⟩ := List.mem_map.mp hl
    exact hc z hz
end
/-! ### steps as items -/
def isKeep : Sk → Bool
  | .keep => true
  | _ => false
theorem keep_eq (st : Sk) : eqL (stepV st) [.str (Str.ofString "keep")] = isKeep st := by
  cases st with
  | keep => decide +kernel
  | lose => decide +kernel
  | twice => decide +kernel
  | swap => decide +kernel
  | turn z => show (eqV _ _ && false) = false; rw [Bool.and_false]
  | add z => show (eqV _ _ && false) = false; rw [Bool.and_false]
  | skip m => show (eqV _ _ && false) = false; rw [Bool.and_false]
theorem step_flat (st : Sk) : (stepV st).all flatV = true := by cases st <;> rfl
def kw (n : Nat) : List Str := if n = 0 then [] else [numS (n : Int)]
def textV : V → Str
  | .str z => z
  | .int n => numS n
  | _ => Str.ofString ""
def partsS (st : Sk) : List Str := (stepV st).map textV
def itemS (st : Sk) : Str := Txt.join (Str.ofString " ") (partsS st)
theorem part_kind {st : Sk} (h : okS st) : ∀ x ∈ stepV st, (∃ z, x = .str z) ∨ ∃ m : Nat, x = .int (m : Nat) ∧ m ≤ 1000 := by
  intro x hx
  cases st with
  | skip m =>
    rcases List.mem_cons.mp hx with e | hx
    · exact .inl ⟨_, e⟩
    · exact .inr ⟨m, List.mem_singleton.mp hx, h.2⟩
  | turn z =>
    rcases List.mem_cons.mp hx with e | hx
    · exact .inl ⟨_, e⟩
    · exact .inl ⟨_, List.mem_singleton.mp hx⟩
  | add z =>
    rcases List.mem_cons.mp hx with e | hx
    · exact .inl ⟨_, e⟩
    · exact .inl ⟨_, List.mem_singleton.mp hx⟩
  | keep => exact .inl ⟨_, List.mem_singleton.mp hx⟩
  | lose => exact .inl ⟨_, List.mem_singleton.mp hx⟩
  | twice => exact .inl ⟨_, List.mem_singleton.mp hx⟩
  | swap => exact .inl ⟨_, List.mem_singleton.mp hx⟩
theorem bl_eq : Str.ofString " " = (⟨#[32]⟩ : Str) := by decide +kernel
theorem item_list (st : Sk) : (itemS st).cps.toList = joinL 32 ((partsS st).map fun z => z.cps.toList) := by
  unfold itemS; rw [bl_eq]; exact glue_list 32 _
def turnS : Str := Str.ofString "turn"
def addS : Str := Str.ofString "add"
def skipS : Str := Str.ofString "skip"
def kinds : List Str := [Str.ofString "keep", Str.ofString "lose", Str.ofString "twice", Str.ofString "swap", Str.ofString "turn", Str.ofString "add", Str.ofString "skip"]
/-- a step's item: its kind alone, or its kind and a word or a number behind a blank -/
theorem item_form (st : Sk) (h : okS st) : (∃ k ∈ kinds, itemS st = k) ∨ ∃ k ∈ kinds, ∃ z : Str, (itemS st).cps.toList = k.cps.toList ++ 32 :: z.cps.toList ∧ z.length ≤ 40 ∧ 32 ∉ z.cps.toList ∧ 44 ∉ z.cps.toList := by
  have g : ∀ z : Str, Good z → z.length ≤ 40 ∧ 32 ∉ z.cps.toList ∧ 44 ∉ z.cps.toList := fun z gz => by
    refine ⟨by have := gz.hi; omega, fun hc => ?_, fun hc => ?_⟩
    · have := gz.al 32 hc; unfold Al at this; omega
    · have := gz.al 44 hc; unfold Al at this; omega
  cases st with
  | turn z => exact .inr ⟨_, by simp [kinds, textV, turnS, addS, skipS], z, item_list _, g z h⟩
  | add z => exact .inr ⟨_, by simp [kinds, textV, turnS, addS, skipS], z, item_list _, g z h⟩
  | skip m =>
    refine .inr ⟨_, by simp [kinds, textV, turnS, addS, skipS], numS (m : Int), item_list (.skip m), numS_len (by omega) (by have := h.2; omega), fun hc => ?_, fun hc => ?_⟩
    · have := numS_digits m 32 hc; omega
    · have := numS_digits m 44 hc; omega
  | keep => exact .inl ⟨Str.ofString "keep", by simp [kinds], by decide +kernel⟩
  | lose => exact .inl ⟨Str.ofString "lose", by simp [kinds], by decide +kernel⟩
  | twice => exact .inl ⟨Str.ofString "twice", by simp [kinds], by decide +kernel⟩
  | swap => exact .inl ⟨Str.ofString "swap", by simp [kinds], by decide +kernel⟩
theorem kinds_facts : ∀ k ∈ kinds, k.length ≤ 5 ∧ 32 ∉ k.cps.toList ∧ 44 ∉ k.cps.toList ∧ writesB k = false := by decide +kernel
theorem item_len {st : Sk} (h : okS st) : (itemS st).length ≤ 60 := by
  rcases item_form st h with ⟨k, hk, e⟩ | ⟨k, hk, z, e, hz, _⟩
  · rw [e]; have := (kinds_facts k hk).1; omega
  · rw [← clen, e, List.length_append, List.length_cons, clen, clen]
    have := (kinds_facts k hk).1
    omega
theorem item_comma {st : Sk} (h : okS st) : 44 ∉ (itemS st).cps.toList := by
  rcases item_form st h with ⟨k, hk, e⟩ | ⟨k, hk, z, e, hz, _, hc⟩
  · rw [e]; exact (kinds_facts k hk).2.2.1
  · rw [e]
    intro hm
    rcases List.mem_append.mp hm with hm | hm
    · exact (kinds_facts k hk).2.2.1 hm
    · rcases List.mem_cons.mp hm with hm | hm
      · cases hm
      · exact hc hm
def wStep (x : List Str × Nat) (st : Sk) : List Str × Nat := if isKeep st = true then (x.1, x.2 + 1) else (x.1 ++ kw x.2 ++ [itemS st], 0)
def wAll (sts : List Sk) : List Str × Nat := sts.foldl wStep ([], 0)
def itemsS (sts : List Sk) : List Str := (wAll sts).1 ++ kw (wAll sts).2
def textS (sts : List Sk) : Str := Txt.join (Str.ofString ", ") (itemsS sts)
theorem wAll_turn {sts : List Sk} {i : Nat} {st : Sk} (hi : sts[i]? = some st) : wAll (sts.take (i + 1)) = wStep (wAll (sts.take i)) st := by
  have hl := (List.getElem?_eq_some_iff.mp hi).1
  unfold wAll
  rw [List.take_succ_eq_append_getElem hl, (List.getElem?_eq_some_iff.mp hi).2, List.foldl_append]
  rfl
theorem kw_len {n : Nat} (h : n ≤ 1000) : (kw n).length ≤ 1 ∧ ∀ z ∈ kw n, z.length ≤ 60 := by
  unfold kw
  by_cases h0 : n = 0
  · rw [if_pos h0]; exact ⟨Nat.zero_le _, fun _ z => nomatch z⟩
  · rw [if_neg h0]
    refine ⟨Nat.le_refl _, fun z hz => ?_⟩
    rw [List.mem_singleton.mp hz]
    have := numS_len (n := (n : Int)) (by omega) (by omega)
    omega
theorem kw_min (n : Nat) : (kw n).length = min n 1 := by
  unfold kw
  by_cases h0 : n = 0
  · rw [if_pos h0, h0]; rfl
  · rw [if_neg h0]; show 1 = _; omega
theorem sum60 {ws : List Str} (h : ∀ z ∈ ws, z.length ≤ 60) : (ws.map (·.length)).sum ≤ 60 * ws.length := by
  induction ws with
  | nil => exact Nat.zero_le _
  | cons z r ih =>
    have h1 := h z List.mem_cons_self
    have h2 := ih fun y hy => h y (List.mem_cons_of_mem _ hy)
    rw [List.map_cons, List.sum_cons, List.length_cons]
    omega
/-! ### items read -/
def cntI (z : Str) : Option Int := if pnum z 80 = some 0 then none else pnum z 80
theorem pnum_in {z : Str} {m n : Int} (h : pnum z m = some n) : 0 ≤ n ∧ n ≤ m := by
  unfold pnum at h
  split at h
  · split at h
    · cases h
      exact ⟨by omega, by assumption⟩
    · cases h
  · cases h
theorem cnt_in {z : Str} {n : Int} (h : cntI z = some n) : 1 ≤ n ∧ n ≤ 80 := by
  unfold cntI at h
  split at h
  · cases h
  · rename_i h0
    have h1 := pnum_in h
    have : n ≠ 0 := fun e => h0 (by rw [h, e])
    omega
def pairR (k z : Str) : Option Sk :=
  if (k = turnS ∨ k = addS) ∧ wordB z = true then some (if k = turnS then .turn z else .add z)
  else if k = skipS then (cntI z).map fun n => .skip n.toNat else none
def itemR (z : Str) : Option (List Sk) :=
  if z = Str.ofString "lose" then some [.lose] else if z = Str.ofString "twice" then some [.twice] else if z = Str.ofString "swap" then some [.swap] else
  match cntI z with
  | some n => some (List.replicate n.toNat .keep)
  | none => match Txt.split z (Str.ofString " ") with
    | [a, b] => (pairR a b).map fun st => [st]
    | _ => none
def readAll : List Str → Option (List Sk)
  | [] => some []
  | z :: r => (itemR z).bind fun a => (readAll r).map fun b => a ++ b
def readS (z : Str) : Option (List Sk) := if z = Str.ofString "" then some [] else (readAll (Txt.split z (Str.ofString ", "))).bind fun sts => if 80 < sts.length then none else some sts
theorem readAll_append : ∀ a b : List Str, readAll (a ++ b) = (readAll a).bind fun x => (readAll b).map fun y => x ++ y
  | [], b => by
    show readAll b = (some []).bind _
    cases readAll b <;> rfl
  | z :: a, b => by
    show (itemR z).bind (fun x => (readAll (a ++ b)).map fun y => x ++ y) = ((itemR z).bind fun x => (readAll a).map fun y => x ++ y).bind _
    cases itemR z with
    | none => rfl
    | some x =>
      show (readAll (a ++ b)).map _ = ((readAll a).map _).bind _
      rw [readAll_append a b]
      cases readAll a with
      | none => rfl
      | some y =>
        show Option.map _ ((readAll b).map _) = (readAll b).map _
        cases readAll b with
        | none => rfl
        | some u => show some (x ++ (y ++ u)) = some (x ++ y ++ u); rw [List.append_assoc]
theorem readAll_turn {ws : List Str} {i : Nat} {z : Str} (hi : ws[i]? = some z) {x : List Sk} (h : readAll (ws.take i) = some x) : readAll (ws.take (i + 1)) = (itemR z).map fun y => x ++ y := by
  have hl := (List.getElem?_eq_some_iff.mp hi).1
  rw [List.take_succ_eq_append_getElem hl, (List.getElem?_eq_some_iff.mp hi).2, readAll_append, h]
  show ((itemR z).bind fun a => (some []).map fun b => a ++ b).map _ = _
  cases itemR z with
  | none => rfl
  | some a => show some (x ++ (a ++ [])) = some (x ++ a); rw [List.append_nil]
theorem readAll_stop {ws : List Str} {i : Nat} (h : readAll (ws.take i) = none) : readAll ws = none := by
  have e : ws = ws.take i ++ ws.drop i := (List.take_append_drop i ws).symm
  rw [e, readAll_append, h]; rfl
theorem pair_ok {k z : Str} {st : Sk} (h : pairR k z = some st) : okS st ∧ isKeep st = false := by
  unfold pairR at h
  split at h
  · rename_i hc
    have g := wordB_iff.mp hc.2
    cases h
    split
    · exact ⟨g, rfl⟩
    · exact ⟨g, rfl⟩
  · split at h
    · cases hz : cntI z with
      | none => rw [hz] at h; cases h
      | some n =>
        rw [hz] at h
        cases h
        have := cnt_in hz
        exact ⟨⟨by omega, by omega⟩, rfl⟩
    · cases h
theorem item_ok {z : Str} {sts : List Sk} (h : itemR z = some sts) : sts.length ≤ 80 ∧ ∀ st ∈ sts, okS st := by
  have one : ∀ st, okS st → [st] = sts → sts.length ≤ 80 ∧ ∀ st ∈ sts, okS st := fun st o e => by
    subst e
    exact ⟨by show 1 ≤ 80; omega, fun s hs => by rw [List.mem_singleton.mp hs]; exact o⟩
  unfold itemR at h
  split at h
  · exact one .lose trivial (Option.some.inj h)
  split at h
  · exact one .twice trivial (Option.some.inj h)
  split at h
  · exact one .swap trivial (Option.some.inj h)
  split at h
  · rename_i n hn
    have := cnt_in hn
    cases h
    refine ⟨by rw [List.length_replicate]; omega, fun s hs => ?_⟩
    rw [List.eq_of_mem_replicate hs]; trivial
  · split at h
    · rename_i a b _
      cases hp : pairR a b with
      | none => rw [hp] at h; cases h
      | some st => rw [hp] at h; exact one st (pair_ok hp).1 (Option.some.inj h)
    · cases h
/-! ### what is written is read -/
theorem num80 : ∀ n, n < 81 → pnum (numS ((n : Nat) : Int)) 80 = some ((n : Nat) : Int) := by decide +kernel
theorem cnt_num {n : Nat} (h1 : 1 ≤ n) (h2 : n ≤ 80) : cntI (numS (n : Int)) = some (n : Int) := by
  unfold cntI
  rw [num80 n (by omega), if_neg (fun e => by have := Option.some.inj e; omega)]
theorem cnt_none {z : Str} (h : writesB z = false) : cntI z = none := by
  have : pnum z 80 = none := by unfold pnum; rw [h]; rfl
  unfold cntI
  rw [this, if_neg (fun e => nomatch e)]
theorem digit_ne {n : Nat} {k : Str} (hk : ∃ c ∈ k.cps.toList, 97 ≤ c) : numS (n : Int) ≠ k := fun e => by
  obtain ⟨c, hc, hl⟩ := hk
  rw [← e] at hc
  have := numS_digits n c hc
  omega
theorem read_num {n : Nat} (h1 : 1 ≤ n) (h2 : n ≤ 80) : itemR (numS (n : Int)) = some (List.replicate n .keep) := by
  unfold itemR
  rw [if_neg (digit_ne (by decide +kernel)), if_neg (digit_ne (by decide +kernel)), if_neg (digit_ne (by decide +kernel)), cnt_num h1 h2]
  show some (List.replicate ((n : Int)).toNat Sk.keep) = _
  rw [Int.toNat_natCast]
theorem split_two {x k z : Str} (e : x.cps.toList = k.cps.toList ++ 32 :: z.cps.toList) (hk : 32 ∉ k.cps.toList) (hz : 32 ∉ z.cps.toList) : Txt.split x (Str.ofString " ") = [k, z] := by
  rw [bl_eq, split_eq, e, splitL_app _ hk, splitL_free hz]
  show [(⟨k.cps.toList.toArray⟩ : Str), ⟨z.cps.toList.toArray⟩] = _
  rw [str_mk, str_mk]
theorem blank_not {x : Str} (h : 32 ∈ x.cps.toList) : writesB x = false ∧ ∀ k ∈ kinds, x ≠ k := by
  refine ⟨?_, fun k hk e => (kinds_facts k hk).2.1 (by rw [← e]; exact h)⟩
  unfold writesB
  split
  · rfl
  · rw [if_neg]
    intro ho
    have := only_digits ho 32 h
    omega
theorem read_item {st : Sk} (h : okS st) (h80 : ∀ m, st = .skip m → m ≤ 80) (hk : isKeep st = false) : itemR (itemS st) = some [st] := by
  have two : ∀ (k : Str) (z : Str), k ∈ kinds → 32 ∉ z.cps.toList → (itemS st).cps.toList = k.cps.toList ++ 32 :: z.cps.toList → pairR k z = some st → itemR (itemS st) = some [st] := fun k z kk hz e hp => by
    have hb := blank_not (x := itemS st) (by rw [e]; simp)
    unfold itemR
    rw [if_neg (hb.2 _ (by simp [kinds, textV, turnS, addS, skipS])), if_neg (hb.2 _ (by simp [kinds, textV, turnS, addS, skipS])), if_neg (hb.2 _ (by simp [kinds, textV, turnS, addS, skipS])), cnt_none hb.1, split_two e (kinds_facts k kk).2.1 hz]
    show (pairR k z).map _ = _
    rw [hp]; rfl
  have g : ∀ z : Str, Good z → 32 ∉ z.cps.toList := fun z gz hc => by have := gz.al 32 hc; unfold Al at this; omega
  cases st with
  | keep => cases hk
  | lose =>
    have e : itemS .lose = Str.ofString "lose" := by decide +kernel
    rw [e]; unfold itemR; rw [if_pos rfl]
  | twice =>
    have e : itemS .twice = Str.ofString "twice" := by decide +kernel
    rw [e]; unfold itemR; rw [if_neg (by decide +kernel), if_pos rfl]
  | swap =>
    have e : itemS .swap = Str.ofString "swap" := by decide +kernel
    rw [e]; unfold itemR; rw [if_neg (by decide +kernel), if_neg (by decide +kernel), if_pos rfl]
  | turn z =>
    refine two turnS z (by simp [kinds, turnS]) (g z h) (item_list _) ?_
    unfold pairR
    rw [if_pos ⟨.inl rfl, wordB_iff.mpr h⟩, if_pos rfl]
  | add z =>
    refine two addS z (by simp [kinds, addS]) (g z h) (item_list _) ?_
    unfold pairR
    rw [if_pos ⟨.inr rfl, wordB_iff.mpr h⟩, if_neg (by decide +kernel)]
  | skip m =>
    refine two skipS (numS (m : Int)) (by simp [kinds, skipS]) (fun hc => by have := numS_digits m 32 hc; omega) (item_list _) ?_
    unfold pairR
    rw [if_neg (fun c => absurd c.1 (by decide +kernel)), if_pos rfl, cnt_num h.1 (h80 m rfl)]
    show some (Sk.skip ((m : Int)).toNat) = _
    rw [Int.toNat_natCast]
def ok80 (st : Sk) : Prop := okS st ∧ ∀ m, st = .skip m → m ≤ 80
theorem read_kw {n : Nat} (h : n ≤ 80) : readAll (kw n) = some (List.replicate n .keep) := by
  unfold kw
  by_cases h0 : n = 0
  · rw [if_pos h0, h0]; rfl
  · rw [if_neg h0]
    show ((itemR (numS (n : Int))).bind fun a => (some []).map fun b => a ++ b) = _
    rw [read_num (by omega) h]
    show some (_ ++ []) = _
    rw [List.append_nil]
theorem read_items : ∀ (sts : List Sk) (done : List Sk) (x : List Str × Nat), (∀ st ∈ sts, ok80 st) → x.2 + sts.length ≤ 80 → readAll x.1 = some done → readAll ((sts.foldl wStep x).1 ++ kw (sts.foldl wStep x).2) = some (done ++ List.replicate x.2 .keep ++ sts)
  | [], done, x, _, hn, hd => by
    show readAll (x.1 ++ kw x.2) = _
    rw [readAll_append, hd, read_kw (by have : x.2 + 0 ≤ 80 := hn; omega)]
    show some (done ++ _) = _
    rw [List.append_nil]
  | st :: r, done, x, ho, hn, hd => by
    rw [List.foldl_cons]
    rw [List.length_cons] at hn
    have hr : ∀ s ∈ r, ok80 s := fun s hs => ho s (List.mem_cons_of_mem _ hs)
    have hs := ho st List.mem_cons_self
    cases hk : isKeep st with
    | true =>
      have e : wStep x st = (x.1, x.2 + 1) := by unfold wStep; rw [if_pos hk]
      have est : st = .keep := by cases st <;> first | rfl | cases hk
      rw [e, read_items r done (x.1, x.2 + 1) hr (by show x.2 + 1 + r.length ≤ 80; omega) hd, est]
      show some (done ++ List.replicate (x.2 + 1) Sk.keep ++ r) = _
      rw [List.replicate_succ']
      simp
    | false =>
      have e : wStep x st = (x.1 ++ kw x.2 ++ [itemS st], 0) := by unfold wStep; rw [if_neg (by rw [hk]; exact Bool.false_ne_true)]
      have h2 : readAll (x.1 ++ kw x.2 ++ [itemS st]) = some (done ++ List.replicate x.2 .keep ++ [st]) := by
        rw [readAll_append, readAll_append, hd, read_kw (by omega)]
        show ((itemR (itemS st)).bind fun a => (some []).map fun b => a ++ b).map _ = _
        rw [read_item hs.1 hs.2 hk]; rfl
      rw [e, read_items r _ (x.1 ++ kw x.2 ++ [itemS st], 0) hr (by show 0 + r.length ≤ 80; omega) h2]
      show some (_ ++ [] ++ r) = _
      simp
theorem items_comma : ∀ (sts : List Sk) (x : List Str × Nat), (∀ st ∈ sts, okS st) → (∀ z ∈ x.1, 44 ∉ z.cps.toList) → ∀ z ∈ (sts.foldl wStep x).1 ++ kw (sts.foldl wStep x).2, 44 ∉ z.cps.toList
  | [], x, _, hx => fun z hz => by
    rcases List.mem_append.mp hz with hz | hz
    · exact hx z hz
    · unfold kw at hz
      split at hz
      · cases hz
      · rw [List.mem_singleton.mp hz]
        intro hc
        have := numS_digits _ 44 hc
        omega
  | st :: r, x, ho, hx => by
    rw [List.foldl_cons]
    refine items_comma r _ (fun s hs => ho s (List.mem_cons_of_mem _ hs)) fun z hz => ?_
    unfold wStep at hz
    split at hz
    · exact hx z hz
    · rcases List.mem_append.mp hz with hz | hz
      · rcases List.mem_append.mp hz with hz | hz
        · exact hx z hz
        · unfold kw at hz
          split at hz
          · cases hz
          · rw [List.mem_singleton.mp hz]
            intro hc
            have := numS_digits _ 44 hc
            omega
      · rw [List.mem_singleton.mp hz]
        exact item_comma (ho st List.mem_cons_self)
/-- a text of items -/
theorem text_ne_C {ws : List Str} (hn : ws ≠ []) (hp : ∀ z ∈ ws, z ≠ Str.ofString "") : Txt.join (Str.ofString ", ") ws ≠ Str.ofString "" := by
  intro e
  have h1 := join_C ws
  rw [← cm_eq, e] at h1
  have h0 : (Str.ofString "").cps.toList = [] := by decide +kernel
  rw [h0] at h1
  cases ws with
  | nil => exact hn rfl
  | cons z r =>
    cases r with
    | nil =>
      have h2 : [] = z.cps.toList := h1
      exact hp z List.mem_cons_self (by
        apply Str.ext'
        apply Array.toList_inj.mp
        rw [← h2, h0])
    | cons y r =>
      have h2 : [] = z.cps.toList ++ 44 :: 32 :: joinC ((y :: r).map fun z => z.cps.toList) := h1
      have := congrArg List.length h2
      rw [List.length_append, List.length_cons] at this
      simp at this
theorem item_ne {z : Str} {sts : List Sk} (h : itemR z = some sts) : z ≠ Str.ofString "" := fun e => by
  subst e
  have : itemR (Str.ofString "") = none := by decide +kernel
  rw [this] at h; cases h
theorem readAll_ne : ∀ {ws : List Str} {sts : List Sk}, readAll ws = some sts → ∀ z ∈ ws, z ≠ Str.ofString ""
  | [], _, _ => fun _ z => nomatch z
  | y :: r, sts, h => fun z hz => by
    have h' : ((itemR y).bind fun a => (readAll r).map fun b => a ++ b) = some sts := h
    cases hy : itemR y with
    | none => rw [hy] at h'; cases h'
    | some a =>
      cases hr : readAll r with
      | none => rw [hy, hr] at h'; cases h'
      | some b =>
        rcases List.mem_cons.mp hz with e | hz
        · rw [e]; exact item_ne hy
        · exact readAll_ne hr z hz
/-- items that are read, put together -/
theorem readS_join {ws : List Str} {sts : List Sk} (h : readAll ws = some sts) (hc : ∀ z ∈ ws, 44 ∉ z.cps.toList) (hn : sts.length ≤ 80) : readS (Txt.join (Str.ofString ", ") ws) = some sts := by
  unfold readS
  by_cases h0 : ws = []
  · subst h0
    have : sts = [] := by cases h; rfl
    subst this
    have e : Txt.join (Str.ofString ", ") [] = Str.ofString "" := by decide +kernel
    rw [if_pos e]
  · rw [if_neg (text_ne_C h0 (readAll_ne h)), split_join_C h0 hc, h]
    show (if 80 < sts.length then none else some sts) = _
    rw [if_neg (by omega)]
theorem readS_text {sts : List Sk} (ho : ∀ st ∈ sts, ok80 st) (hn : sts.length ≤ 80) : readS (textS sts) = some sts := by
  have h1 := read_items sts [] ([], 0) ho (by show 0 + sts.length ≤ 80; omega) rfl
  exact readS_join h1 (items_comma sts ([], 0) (fun st hs => (ho st hs).1) (fun _ z => nomatch z)) hn
/-- each keep by itself -/
def oneS (st : Sk) : Str := if isKeep st = true then Str.ofString "1" else itemS st
theorem read_ones : ∀ {sts : List Sk}, (∀ st ∈ sts, ok80 st) → readAll (sts.map oneS) = some sts
  | [], _ => rfl
  | st :: r, ho => by
    have hs := ho st List.mem_cons_self
    have e1 : itemR (oneS st) = some [st] := by
      unfold oneS
      cases hk : isKeep st with
      | true =>
        have est : st = .keep := by cases st <;> first | rfl | cases hk
        have e1 : Str.ofString "1" = numS ((1 : Nat) : Int) := by decide +kernel
        rw [if_pos rfl, est, e1, read_num (by decide) (by decide)]
        rfl
      | false => rw [if_neg Bool.false_ne_true]; exact read_item hs.1 hs.2 hk
    show ((itemR (oneS st)).bind fun a => (readAll (r.map oneS)).map fun b => a ++ b) = _
    rw [e1, read_ones fun s h => ho s (List.mem_cons_of_mem _ h)]; rfl
theorem readS_ones {sts : List Sk} (ho : ∀ st ∈ sts, ok80 st) (hn : sts.length ≤ 80) : readS (Txt.join (Str.ofString ", ") (sts.map oneS)) = some sts :=
  readS_join (read_ones ho) (fun z hz => by
    obtain ⟨st, hs, rfl⟩ := List.mem_map.mp hz
    unfold oneS
    split
    · decide +kernel
    · exact item_comma (ho st hs).1) hn
/-! ### the steps' tuples, as they lie there -/
structure TupsAt (H : Hp) (ts : List Addr) (sts : List Sk) : Prop where
  len : ts.length = sts.length
  item : ∀ (i : Nat) (t : Addr) (st : Sk), ts[i]? = some t → sts[i]? = some st → H t = some (.tup (stepV st)) ∧ okS st
theorem TupsAt.at {K : PySem.W.Frag} {H : Hp} {ts : List Addr} {sts : List Sk} (h : TupsAt H ts sts) : StepsAt K H ts sts :=
  ⟨h.len, fun i t st e1 e2 => ⟨SqT.of (h.item i t st e1 e2).1, (h.item i t st e1 e2).2⟩⟩
theorem TupsAt.mono {H H' : Hp} {ts : List Addr} {sts : List Sk} (S : Same H H') (h : TupsAt H ts sts) : TupsAt H' ts sts :=
  ⟨h.len, fun i t st e1 e2 => ⟨S _ _ (h.item i t st e1 e2).1, (h.item i t st e1 e2).2⟩⟩
theorem TupsAt.nil {H : Hp} : TupsAt H [] [] := ⟨rfl, fun i t st e _ => by simp at e⟩
theorem TupsAt.app {H : Hp} {ts us : List Addr} {sts sus : List Sk} (h : TupsAt H ts sts) (h2 : TupsAt H us sus) : TupsAt H (ts ++ us) (sts ++ sus) := by
  refine ⟨by rw [List.length_append, List.length_append, h.len, h2.len], fun i t st e1 e2 => ?_⟩
  by_cases hi : i < ts.length
  · rw [List.getElem?_append_left hi] at e1
    rw [List.getElem?_append_left (by rw [← h.len]; exact hi)] at e2
    exact h.item i t st e1 e2
  · rw [List.getElem?_append_right (by omega)] at e1
    rw [List.getElem?_append_right (by rw [← h.len]; omega), ← h.len] at e2
    exact h2.item _ t st e1 e2
theorem TupsAt.one {H : Hp} {t : Addr} {st : Sk} (h : H t = some (.tup (stepV st))) (ho : okS st) : TupsAt H [t] [st] := by
  refine ⟨rfl, fun i t' st' e1 e2 => ?_⟩
  cases i with
  | zero => cases e1; cases e2; exact ⟨h, ho⟩
  | succ i => simp at e1
theorem TupsAt.rep {H : Hp} {t : Addr} {st : Sk} (h : H t = some (.tup (stepV st))) (ho : okS st) : ∀ n : Nat, TupsAt H (List.replicate n t) (List.replicate n st)
  | 0 => TupsAt.nil
  | n + 1 => by
    have := (TupsAt.one h ho).app (TupsAt.rep h ho n)
    exact this
theorem TupsAt.set {H : Hp} {l : Addr} {ts : List Addr} {sts : List Sk} {ys : List V} {o : HO} (h : TupsAt H ts sts) (hl : H l = some (.lst ys)) : TupsAt (upd H l o) ts sts :=
  ⟨h.len, fun i t st e1 e2 => ⟨by
    have e := (h.item i t st e1 e2).1
    have n : t ≠ l := fun z => by rw [z, hl] at e; cases e
    rw [upd_ne n]; exact e, (h.item i t st e1 e2).2⟩⟩
theorem repFlat {α : Type} (x : α) : ∀ n : Nat, (List.replicate n [x]).flatten = List.replicate n x
  | 0 => rfl
  | n + 1 => by rw [List.replicate_succ, List.flatten_cons, repFlat x n, List.replicate_succ]; rfl
theorem freeNe {H : Hp} {p r : Addr} {o : HO} (h : upd H p o r = none) : r ≠ p ∧ H r = none := by
  have n : r ≠ p := fun e => by rw [e, upd_same] at h; cases h
  exact ⟨n, by rw [upd_ne n] at h; exact h⟩
theorem in_two (k a b : Str) : inV (.str k) [.str a, .str b] = true ↔ k = a ∨ k = b := by
  show ((a == k) || ((b == k) || false)) = true ↔ _
  rw [Bool.or_false, Bool.or_eq_true, beq_iff_eq, beq_iff_eq]
  exact ⟨fun h => h.imp Eq.symm Eq.symm, fun h => h.imp Eq.symm Eq.symm⟩
theorem in_three (k a b c : Str) : inV (.str k) [.str a, .str b, .str c] = true ↔ k = a ∨ k = b ∨ k = c := by
  show ((a == k) || ((b == k) || ((c == k) || false))) = true ↔ _
  rw [Bool.or_false, Bool.or_eq_true, Bool.or_eq_true, beq_iff_eq, beq_iff_eq, beq_iff_eq]
  exact ⟨fun h => h.imp Eq.symm fun h => h.imp Eq.symm Eq.symm, fun h => h.imp Eq.symm fun h => h.imp Eq.symm Eq.symm⟩
theorem split_small {z y : Str} (hy : 1 ≤ y.length) : (Txt.split z y).length ≤ z.length + 2 ∧ ∀ m ∈ Txt.split z y, m.length ≤ z.length + 1 := by
  refine ⟨PyProof.Rows.split_le z y, fun m hm => ?_⟩
  have h := PyProof.Rows.split_weight z y hy
  have : m.length ≤ ((Txt.split z y).map (·.length)).sum := by
    generalize Txt.split z y = l at hm
    clear h
    induction l with
    | nil => cases hm
    | cons a r ih =>
      rw [List.map_cons, List.sum_cons]
      rcases List.mem_cons.mp hm with e | hm
      · rw [e]; omega
      · have := ih hm; omega
  omega
theorem item_rest {z : Str} (n1 : z ≠ Str.ofString "lose") (n2 : z ≠ Str.ofString "twice") (n3 : z ≠ Str.ofString "swap") (hc : cntI z = none) : itemR z = match Txt.split z (Str.ofString " ") with
    | [a, b] => (pairR a b).map fun st => [st]
    | _ => none := by
  unfold itemR
  rw [if_neg n1, if_neg n2, if_neg n3, hc]
/-- a module's tuple of texts -/
theorem sqT_mod {K : PySem.W.Frag} {a : Addr} {ws : List (Str × Tok)} {n : Nat} {sl : Array (Option Value)} (h : K.lookup a = some ⟨.type "tuple", none, .seq (ws.map fun p => Value.str p.1 p.2).toArray n, sl⟩) (hz : ws.length ≤ 1000) (H : Hp) : SqT K H a (ws.map fun p => V.str p.1) := by
  refine .inr ⟨_, _, n, h, rfl, rfl, by rw [List.size_toArray, List.length_map]; exact few (by omega), ?_⟩
  rw [List.toList_toArray]
  clear h hz
  induction ws with
  | nil => exact .nil
  | cons p r ih => exact .cons ⟨p.2, rfl⟩ ih
/-- a comprehension whose items lay new things -/
theorem comp_grow {α : Type} {J : It} {H : Hp} {as : List α} {v : α → V} {te : TE} {Q : VK} {rest : L2.St} (I : Nat → List V → Hp → Prop) (hs : ∀ i acc H', i ≤ as.length → I i acc H' → Src J H' (as.map v)) (hz : as.length ≤ sizeLine) (h0 : I 0 [] H)
    (hl : ∀ i acc H', I i acc H' → acc.length = i) (he : ∀ i a acc H', as[i]? = some a → I i acc H' → ∀ k : VK, (∀ x H2, I (i + 1) (acc ++ [x]) H2 → k x H2) → te (some (v a) :: rest) H' k)
    (hq : ∀ acc H', I as.length acc H' → ∀ D, H' D = none → Q (.ref D) (upd H' D (.lst acc))) : wComp J (gName 0) tYes te Q (none :: rest) H := by
  refine ⟨fun i m σ acc H' => I i acc H' ∧ i ≤ as.length ∧ m = as.length - i ∧ ∃ o, σ = o :: rest, ⟨as.length, h0, Nat.zero_le _, rfl, none, rfl⟩, ?_⟩
  rintro i m σ acc H' ⟨hI, hi, rfl, o, rfl⟩
  have hacc := hl i acc H' hI
  have S := hs i acc H' hi hI
  by_cases hlt : i < as.length
  · refine .inr ⟨S.go i (by rw [List.length_map]; exact hlt), fun x H1 y => ?_⟩
    obtain ⟨rfl, hx⟩ := S.yld i x H1 (by rw [List.length_map]; exact hlt) y
    rw [List.getElem?_map, List.getElem?_eq_getElem hlt] at hx
    have hx' : v as[i] = x := Option.some.inj hx
    subst hx'
    show te (some (v as[i]) :: rest) H1 _
    exact he i as[i] acc H1 (List.getElem?_eq_getElem hlt) hI _ fun x H2 h2 => ⟨by omega, as.length - (i + 1), by omega, h2, hlt, rfl, _, rfl⟩
  · have ei : i = as.length := by omega
    subst ei
    exact .inl ⟨S.stop _ (by rw [List.length_map]; exact Nat.le_refl _), by omega, hq acc H' hI⟩
end Vm

set_option Elab.async false
set_option linter.all false
set_option maxRecDepth 100000
set_option maxHeartbeats 4000000
/-! range with a step. -/
namespace L3
open PySem PySem.Spec PyProof.Rows L2
def Itr3 (lo c : Int) (n : Nat) : It := ⟨fun i _ => i < n, fun i H x H' => H' = H ∧ x = .int (lo + (i : Nat) * c), fun i _ => n ≤ i⟩
theorem turn_range3 {P : Program} {w : World} {K : PySem.W.Frag} {tg : Expr} (it : Addr) (lo c : Int) (n : Nat) : Turn P w K tg (Itr3 lo c n) [it] it (fun i h => IsRangeIter h it (lo + (i : Nat) * c) ((n : Int) - (i : Nat)) c) where
  mem := List.mem_singleton.mpr rfl
  obj := fun i h st b hb => by
    rw [List.mem_singleton.mp hb]
    exact ⟨_, st, fun v z => nomatch (show Data.fields _ = Data.cell v from z)⟩
  keep := fun i h h' st k => k it (List.mem_singleton.mpr rfl) _ st
  item := by
    intro X hP hw hK hc i pins s σ H E I hf st hg
    subst hP hw hK
    obtain ⟨f0, f1, f2, f3, f4, f5⟩ := hf it (List.mem_singleton.mpr rfl)
    refine (Walks.range (prog := X.prog) (w := X.w) (I.ok.hd hc) it lo c n).item i s _ _ hg st fun v h' tk hv st' kk => ?_
    obtain ⟨t, rfl⟩ := hv
    have I1 : Inv X pins σ H { s with heap := h', toks := tk } := I.turned (fun b o hb e => kk b o (fun z => hb (List.mem_singleton.mp z)) e) f0 f1 f3 f4 f5
    exact ⟨_, rfl, go_of (s := { s with heap := h', toks := tk }) (n := "range_iterator") st' rfl rfl (by decide) ⟨.int (lo + (i : Nat) * c), H, I1, ⟨t, rfl⟩, ⟨rfl, rfl⟩, st', fun b hb => (hf b hb).1⟩⟩
  done := by
    intro X hP hw hK hc i pins s σ H E I hf st hg
    subst hP hw hK
    obtain ⟨f0, f1, f2, f3, f4, f5⟩ := hf it (List.mem_singleton.mpr rfl)
    have hle : (n : Int) - (i : Nat) ≤ 0 := by have : n ≤ i := hg; omega
    exact wpAny_pyNext_range_end (I.ok.hd hc) st hle fun h' eb => ⟨rfl, I.turned (t' := s.toks) (fun b o hb e => eb b o hb e) f0 f1 f3 f4 f5⟩
  self := fun _ _ _ _ _ st h => wpAny_pyIter_rangeiter st h
section
variable {X : Cx} {tg : Expr}
theorem range_it3 {pins : List (Addr × Obj)} {σ : L2.St} {H : Hp} {s : Shared} {R : It → Hp → Prop} {E : Value → Shared → Prop} {lo hi c : Int} {n : Nat} {t u v : Tok} {tk : Nat} (I : Inv X pins σ H s) (hs : Builtin.Range.small lo hi c = true) (hn : Builtin.Range.rangeSize lo hi c = (n : Int))
    (q : R (Itr3 lo c n) H) : wpAny (model X.prog X.w) X.A (pyIter (.ref s.heap.objs.size)) (PIE X pins σ tg R) E { s with heap := s.heap.push { cls := .type "range", data := .fields #[.int lo t, .int hi u, .int c v] }, toks := tk } := by
  refine wpAny_pyIter_range (IsRange.new ..) hs ?_
  have I1 : Inv X pins σ H { s with heap := s.heap.push { cls := .type "range", data := .fields #[.int lo t, .int hi u, .int c v] }, toks := tk } := I.kept fun b o e => Heap.get?_push_of_some _ e
  generalize hg : s.heap.push { cls := .type "range", data := .fields #[.int lo t, .int hi u, .int c v] } = g at I1
  refine ⟨g.objs.size, [g.objs.size], _, _, H, rfl, I1.kept (t' := tk) fun b o e => Heap.get?_push_of_some _ e, turn_range3 _ lo c n, ?_, fun b hb => ?_, q⟩
  · show IsRangeIter _ _ (lo + ((0 : Nat) : Int) * c) ((n : Int) - ((0 : Nat) : Int)) c
    rw [show lo + ((0 : Nat) : Int) * c = lo by simp, show (n : Int) - ((0 : Nat) : Int) = Builtin.Range.rangeSize lo hi c by rw [hn]; simp]
    exact Heap.get?_push_size _ rfl
  · rw [List.mem_singleton.mp hb]
    exact I1.fpOk (Nat.le_refl _) (I1.hok.fresh (Nat.le_refl _))
def iRng3 (ta : TA) : TI := fun σ H R => ta σ H fun vs H1 => ∃ (i j c : Int) (n : Nat), vs = [.int i, .int j, .int c] ∧ c ≠ 0 ∧ c.natAbs < 1073741824 ∧ Builtin.Range.small i j c = true ∧ Builtin.Range.rangeSize i j c = (n : Int) ∧ R (Itr3 i c n) H1
theorem pi_range3 {a b d : Expr} {ta : TA} {p pos : Pos} (hg : Gl X "range") (hm : X.mg "range" = none) (ha : PA X [a, b, d] ta) (hs : starEach [a, b, d] X.env = [(false, eval a X.env), (false, eval b X.env), (false, eval d X.env)] := by rfl) (hs2 : starEach [b, d] X.env = [(false, eval b X.env), (false, eval d X.env)] := by rfl) :
    PI X tg (.Call (.Name "range" p) [a, b, d] [] pos) (iRng3 ta) := by
  intro pins s σ H R I h
  refine Call_ (ld_blt I hg hm boot_range (PyProof.Rows.callWith_type1 (thn (ha pos pins s σ H _ I h) fun us s1 ⟨vs, H1, I1, r1, q1⟩ => ?_) (by rw [hs, hs2]) (by rw [hs2]; rfl)))
  obtain ⟨i, j, c, n, e, hc, hc2, h1, h2, q⟩ := q1
  subst e
  cases r1 with
  | cons r rr =>
  cases rr with
  | cons r' rr =>
  cases rr with
  | cons r'' rr =>
    cases rr
    obtain ⟨t, rfl⟩ := r
    obtain ⟨t', rfl⟩ := r'
    obtain ⟨t'', rfl⟩ := r''
    exact call_range_3 hc (range_it3 I1 h1 h2 q) (Or.inl (PyProof.noPylong_small hc2))
theorem for_range3 {lo c : Int} {n : Nat} {g : TG} {tb : TS} {D : Ends} {σ : L2.St} {H : Hp} (Pv : Nat → L2.St → Hp → Prop) (h0 : Pv 0 σ H)
    (hs : ∀ i σ H, i < n → Pv i σ H → g (.int (lo + (i : Nat) * c)) σ H fun σ2 H2 => tb { D with nx := Pv (i + 1), ct := Pv (i + 1), bk := D.nx } σ2 H2) (hd : ∀ σ H, Pv n σ H → D.nx σ H) :
    ∃ W : Nat → Nat → L2.St → Hp → Prop, (∃ m, W 0 m σ H) ∧ ∀ i m σ H, W i m σ H →
      ((Itr3 lo c n).stop i H ∧ D.nx σ H) ∨ ((Itr3 lo c n).go i H ∧ ∃ N : L2.St → Hp → Prop, (∀ σ' H', N σ' H' → ∃ m', m' < m ∧ W (i + 1) m' σ' H') ∧ ∀ x H', (Itr3 lo c n).yld i H x H' → g x σ H' fun σ2 H2 => tb { D with nx := N, ct := N, bk := D.nx } σ2 H2) := by
  refine ⟨fun i m σ H => m = n - i ∧ i ≤ n ∧ Pv i σ H, ⟨n, by simp, Nat.zero_le _, h0⟩, ?_⟩
  rintro i m σ H ⟨rfl, hi, p⟩
  rcases Nat.lt_or_ge i n with hlt | hge
  · refine .inr ⟨hlt, Pv (i + 1), fun σ' H' p' => ⟨n - (i + 1), by omega, rfl, hlt, p'⟩, ?_⟩
    rintro x H' ⟨rfl, rfl⟩
    exact hs i σ _ hlt p
  · have e : i = n := by omega
    subst e
    exact .inl ⟨Nat.le_refl _, hd σ H p⟩
end
end L3

set_option Elab.async false
set_option linter.all false
set_option maxRecDepth 100000
set_option maxHeartbeats 4000000
/-! NUMBERS OF ANY SIZE multiplied; t[::-1] of a tuple. -/
namespace L3
open PySem PySem.Spec PyProof.Rows L2
section
variable {X : Cx}
theorem op_mulB : OpR X (binaryOp .Mult) (rI (fun i j => IntMulOk i j) fun i j => .int (i * j)) := opI fun _ _ _ _ _ _ _ hc q => mul_int q hc
end
end L3
namespace HT
open PySem PySem.Spec PyProof.Rows
section
variable {prog : Program} {w : World} {A : Around} {E : Value → Shared → Prop} {s : Shared}
theorem adjust_rev (n : Nat) : Builtin.Slice.sliceAdjust none none (-1) (n : Int) = ((n : Int) - 1, -1) := by
  unfold Builtin.Slice.sliceAdjust
  simp
theorem places_rev (n : Nat) : Builtin.Slice.slicePlaces ((n : Int) - 1) (-1) (-1) = n := by
  unfold Builtin.Slice.slicePlaces
  simp
  try omega
theorem fm_map {α β : Type} {f : α → Option β} {g : α → β} : ∀ {l : List α}, (∀ m ∈ l, f m = some (g m)) → l.filterMap f = l.map g
  | [], _ => rfl
  | a :: r, h => by rw [List.filterMap_cons, h a List.mem_cons_self, List.map_cons, fm_map fun m hm => h m (List.mem_cons_of_mem _ hm)]
theorem pick_rev (xs : Array Value) : ((List.range xs.size).filterMap fun (m : Nat) => xs[(((xs.size : Nat) : Int) - 1 + (m : Int) * (-1)).toNat]?).toArray = xs.toList.reverse.toArray := by
  congr 1
  rw [fm_map (g := fun m => (xs[xs.size - 1 - m]?).getD .none) fun m hm => ?_]
  · apply List.ext_getElem?
    intro i
    rw [List.getElem?_map]
    by_cases hi : i < xs.size
    · rw [List.getElem?_range hi, List.getElem?_reverse (by rw [Array.length_toList]; exact hi), Array.length_toList, Array.getElem?_toList]
      show some ((xs[xs.size - 1 - i]?).getD .none) = _
      rw [Array.getElem?_eq_getElem (show xs.size - 1 - i < xs.size by omega)]
      rfl
    · rw [List.getElem?_eq_none (by rw [List.length_range]; omega), List.getElem?_eq_none (by rw [List.length_reverse, Array.length_toList]; omega)]
      rfl
  · have hm' := List.mem_range.mp hm
    have e1 : (((xs.size : Nat) : Int) - 1 + (m : Int) * (-1)).toNat = xs.size - 1 - m := by omega
    show xs[(((xs.size : Nat) : Int) - 1 + (m : Int) * (-1)).toNat]? = some ((xs[xs.size - 1 - m]?).getD .none)
    rw [e1, Array.getElem?_eq_getElem (show xs.size - 1 - m < xs.size by omega)]
    rfl
theorem getItem_tuple_rev {t sl : Addr} {items : Array Value} {tk : Tok} {Q : Value → Shared → Prop} (ht : IsTup s.heap t items) (hs : s.heap.IsSliceOf sl .none .none (.int (-1) tk))
    (h : Q (.ref s.heap.objs.size) { s with heap := s.heap.push { cls := .type "tuple", data := .seq items.toList.reverse.toArray } })
    (hsz : items.size ≤ sizeLine) : wpAny (model prog w) A (getItem (.ref t) (.ref sl)) Q E s := by
  have htake : sizeOk (.seq items.toList.reverse.toArray) := by
    show items.toList.reverse.toArray.size ≤ sizeLine
    rw [List.size_toArray, List.length_reverse, Array.length_toList]
    exact hsz
  obtain ⟨os, hos, hcs, hds⟩ := id hs
  have hTs : s.TypeIs (.ref sl) "slice" := ⟨os, hos, hcs⟩
  unfold getItem
  try with_reducible refine wpAny_holding ?_
  first | refine wpAny_bind (wpAny_pure ?_) | skip
  refine wpAny_bind (wpAny_sequenceKey ht.typeIs (by decide) ?_)
  refine wpAny_bind (wpAny_callSpecial?_slot (name := Str.ofString "__getitem__") ht.typeIs PyProof.Rows.slot_tuple_getitem
    (wpAny_call_entry PyProof.Rows.slot_tuple_getitem ht.typeIs entry_tuple_getitem ?_ (args_tuple_getitem _ _)))
  show wpAny _ _ (Builtin.Tuple.tupleItemsOf (.ref t) >>= _) _ _ s
  refine wpAny_bind (tupleItemsOf_ ht ?_)
  refine wpAny_bind (wpAny_typeOf hTs ?_)
  rw [if_pos (by decide)]
  have app : ∀ {Q : Int × Int × Nat → Shared → Prop}, Q (((items.size : Nat) : Int) - 1, -1, items.size) s → wpAny (model prog w) A.in1 (Builtin.Slice.sliceApplied (.ref sl) (pure ((items.size : Nat) : Int))) Q E s := fun hq => by
    unfold Builtin.Slice.sliceApplied Builtin.Slice.sliceFields
    refine wpAny_bind (wpAny_bind (wpAny_field hos hds (x := .none) rfl (wpAny_bind (wpAny_field hos hds (x := .none) rfl (wpAny_bind (wpAny_field hos hds (x := .int (-1) tk) rfl (wpAny_pure ?_)))))))
    refine wpAny_bind (slicePart_int ?_)
    show wpAny _ _ (if ((-1 : Int) == 0) = true then _ else _) _ _ s
    rw [if_neg (by decide)]
    refine wpAny_bind (slicePart_none (wpAny_bind (slicePart_none (wpAny_bind (wpAny_pure ?_)))))
    show wpAny _ _ (match Builtin.Slice.sliceAdjust none none (-1) ((items.size : Nat) : Int) with | (lo, hi) => pure (lo, (-1 : Int), Builtin.Slice.slicePlaces lo hi (-1))) _ _ s
    rw [adjust_rev]
    show wpAny _ _ (pure (((items.size : Nat) : Int) - 1, (-1 : Int), Builtin.Slice.slicePlaces (((items.size : Nat) : Int) - 1) (-1) (-1))) _ _ s
    rw [places_rev]
    exact wpAny_pure hq
  refine wpAny_bind (app ?_)
  show wpAny _ _ (if (((((items.size : Nat) : Int) - 1) == 0 && (-1 : Int) == 1 && items.size == items.size) = true) then _ else _) _ _ s
  rw [if_neg (by rw [show ((-1 : Int) == 1) = false from rfl, Bool.and_false, Bool.false_and]; exact Bool.false_ne_true), pick_rev]
  first
    | exact wpAny_bind (m := Builtin.Tuple.tupleExact _) (wpAny_newObj_type (wpAny_pure ⟨_, rfl, wpAny_pure h⟩) htake)
    | exact wpAny_bind (m := Builtin.Tuple.tupleExact _) (wpAny_newObj_type (wpAny_bind (wpAny_pure (wpAny_pure ⟨_, rfl, wpAny_pure h⟩))) htake)
    | exact wpAny_bind (wpAny_bind (m := Builtin.Tuple.tupleExact _) (wpAny_newObj_type (wpAny_pure (wpAny_pure ⟨_, rfl, wpAny_pure h⟩)) htake))
    | exact wpAny_bind (wpAny_bind (m := Builtin.Tuple.tupleExact _) (wpAny_newObj_type (wpAny_pure ⟨_, rfl, wpAny_pure h⟩) htake))
end
end HT
namespace L3
open PySem PySem.Spec PyProof.Rows L2
section
variable {X : Cx} {e es : Expr} {te ts : TE} {pos p2 : Pos}
theorem Vals.rev {xs : List V} {us : List Value} (r : Vals xs us) : Vals xs.reverse us.reverse := by
  induction r with
  | nil => exact .nil
  | cons r1 r2 ih =>
    rw [List.reverse_cons, List.reverse_cons]
    exact ih.append (.cons r1 .nil)
def tRev (K : PySem.W.Frag) (te ts : TE) : TE := fun σ H Q => te σ H fun x H1 => ts σ H1 fun y H2 => y = .int (-1) ∧ ∃ (a : Addr) (xs : List V), x = .ref a ∧ SqT K H2 a xs ∧ ∀ p, H2 p = none → Q (.ref p) (upd H2 p (.tup xs.reverse))
theorem pe_rev (he : PE X e te) (hs : PE X es ts) : PE X (.Subscript e (.Slice none none (some es) p2) pos) (tRev X.K te ts) := by
  intro pins s σ H Q I h
  refine Subscript_ (thn (he pins s σ H _ I h) fun v s1 ⟨x, H1, I1, r1, q1⟩ => ?_)
  refine wpAny_Slice ?_
  rw [evalPart_none, evalPart_some]
  refine wpAny_pure (wpAny_pure (thn (hs pins s1 σ H1 _ I1 q1) fun u s2 ⟨y, H2, I2, r2, q2⟩ => ?_))
  obtain ⟨rfl, a, xs, rfl, hx, q⟩ := q2
  obtain ⟨tk, rfl⟩ := r2
  cases r1
  have I4 : Inv X pins σ H2 { s2 with heap := s2.heap.push { cls := .type "slice", data := .fields #[.none, .none, .int (-1) tk] } } := I2.kept (t' := s2.toks) fun b ob q => Heap.get?_push_of_some _ q
  obtain ⟨its, r, ht, hz⟩ := I4.tuple hx
  have hlen : its.toArray.size = xs.length := by rw [List.size_toArray]; exact r.length.symm
  show wpAny (model X.prog X.w) X.A (subscriptTail e (.Slice none none (some es) p2) (.ref a) (.ref s2.heap.objs.size)) (EP X pins σ Q) X.xe { s2 with heap := s2.heap.push { cls := .type "slice", data := .fields #[.none, .none, .int (-1) tk] } }
  refine tail_any (ops := [.ref a, .ref s2.heap.objs.size]) ht.typeIs PyProof.Rows.slot_tuple_getitem.lookup ?_ (by with_unfolding_all rfl)
  refine HT.getItem_tuple_rev ht (Heap.IsSliceOf.new ..) ?_ (by rw [hlen]; exact hz)
  refine ⟨.ref _, _, I4.laid (t' := s2.toks) (o := .tup xs.reverse) (fun b ob q => Heap.get?_push_of_some _ q) (Nat.le_refl _) ?_, rfl, q _ (I4.hok.fresh (Nat.le_refl _))⟩
  exact ⟨by rw [List.length_reverse]; exact hz, _, Vals.rev r, IsTup.new _ _⟩
end
end L3
namespace L3
open PySem PySem.W PySem.Calls PySem.Spec PyProof.Rows L2
theorem bits_lay {ns : List Int} (h : WData.layableAll [WData.list (ns.map WData.int)] = true) : ∀ m ∈ ns, Builtin.Int.intBits m ≤ 1048576 := fun m hm => by
  have h1 : (WData.list (ns.map WData.int)).layable = true := layableW_arg h _ List.mem_cons_self
  have h2 : (WData.int m).layable = true := layableW_item h1 _ (List.mem_map.mpr ⟨m, hm, rfl⟩)
  exact PyData.bits_of_layable (layable0_of_all (lay0_int h2))
/-- a law's def that multiplies the script's numbers: their bits are bounded -/
theorem walk_ofB {l : PySem.W.OpenLaw} {n k : Nat} {q : Program} {loose : List Str} {XP : (Str → Option Value) → Heap → Prop} {YP : World → Heap → Prop} {d : DefRec} {K : Params → PySem.W.Frag} {CX : World → CXT} {sp : World → Sp} {x : Str}
    (hn : l.most = some n) (hn2 : n ≤ sizeLine) (hdf : d.params.defaults = []) (hr : Room k callerA) (hY : ∀ (w : World) (h : Heap), YP w h → (K w.params).In h)
    (F : ∀ (w : World) (mg : Str → Option Value) (fa : Addr) (h : Heap), (K w.params).In h → h.Ns mainGlobals mg → mg d.name = some (.ref fa) →
      ∃ fd : FuncData, (∀ (s : Shared) (u : Value), BindsTo s fd ⟨[u], []⟩ [(x, u)]) ∧ ∀ base : Heap, (K w.params).In base → base.Ns mainGlobals mg → FnOk l.prog w (K w.params) mg base (CX w) k fa fd [x] (sp w))
    (hsp : ∀ (w : World) (H : Hp) (a : Addr) (ns : List Int), ns.length ≤ n → (∀ m ∈ ns, Builtin.Int.intBits m ≤ 1048576) → Only H → SqL (K w.params) H a (ns.map V.int) → sp w [.ref a] H (fun v _ => v = .bl true) fun _ _ _ => False)
    (hCX : ∀ (w : World) (H : Hp) (s : Shared) (e : Value) (s' : Shared), CX w [] H s (fun _ _ _ => False) e s' → False) :
    PySem.W.WalkO q loose XP YP l.row.toRowW d [] (fun f vs => PySem.call f vs) := by
  intro w s₀ s₁ mg mb G Y fa o pm cd doc dV kV ho hd hcd hD hmg hg args vals as hpre hlay hrd hwl hlo
  obtain rfl : dV = .none := Dflts.none hD hdf
  obtain rfl : kV = .none := Dflts.noKw hD
  obtain ⟨a, vs, ns, rfl, rfl, hobj, hints, hlen⟩ := Att.script_of hn hpre hwl
  have KX := hY w _ Y
  obtain ⟨fd, hb, hF⟩ := F w mg fa _ KX G.T.g hmg
  refine enter_call (codeAny_mono (law_call KX G.T.g G.T.b G.T.builtins G.T.nolimit hg hobj hints (Nat.le_trans hlen hn2) hr hF hb (fun H hO hS => hsp w H a ns hlen (bits_lay hlay) hO hS) fun H e s' => hCX w H s₁ e s') fun r s' hq => ?_)
  obtain ⟨rfl, h2, h3, h4⟩ := hq
  exact ⟨.inl ⟨.bool true, .bool true, [], rfl, fun _ => rfl, .bool true, Att.post_true l _, fun _ => ⟨List.Pairwise.nil, fun _ hm => (nomatch hm)⟩⟩, h2, h3, h4⟩
end L3

set_option Elab.async false
set_option linter.all false
set_option maxRecDepth 100000
set_option maxHeartbeats 4000000
/-! THE KNOTS of an elder and a copy: the ways from each. -/
namespace Vm
open PySem PySem.Spec PyProof.Rows L2 L3
def swapW (es cs : List Str) (i j : Nat) : Bool := if i + 1 < es.length then (if gt es i = gt es (i + 1) then false else decide ((cs.drop j).take 2 = [gt es (i + 1), gt es i])) else false
def skips (es : List Str) (i : Nat) : List Nat := if i = 0 then [] else ((List.range (es.length - i)).filter fun k => decide (gt es (i + k) = gt es (i - 1))).map (· + 1)
abbrev Way := Sk × Nat × Nat
def w1 (es cs : List Str) (i j : Nat) : List Way := if i < es.length ∧ j < cs.length then [((if gt es i = gt cs j then .keep else .turn (gt cs j)), i + 1, j + 1)] else []
def w2 (es : List Str) (i j : Nat) : List Way := if i < es.length then [(.lose, i + 1, j)] else []
def w3 (cs : List Str) (i j : Nat) : List Way := if j < cs.length then [(.add (gt cs j), i, j + 1)] else []
def w4 (cs : List Str) (i j : Nat) : List Way := if 0 < j ∧ j < cs.length ∧ gt cs j = gt cs (j - 1) then [(.twice, i, j + 1)] else []
def w5 (es cs : List Str) (i j : Nat) : List Way := if swapW es cs i j = true then [(.swap, i + 2, j + 2)] else []
def w6 (es : List Str) (i j : Nat) : List Way := (skips es i).map fun k => (.skip k, i + k, j)
def ways (es cs : List Str) (i j : Nat) : List Way := w1 es cs i j ++ w2 es i j ++ w3 cs i j ++ w4 cs i j ++ w5 es cs i j ++ w6 es i j
theorem skips_in {es : List Str} {i k : Nat} (h : k ∈ skips es i) : 1 ≤ k ∧ i + k ≤ es.length ∧ 1 ≤ i := by
  unfold skips at h
  split at h
  · cases h
  · obtain ⟨m, hm, rfl⟩ := List.mem_map.mp h
    have := List.mem_range.mp (List.mem_filter.mp hm).1
    omega
theorem ways_ok {es cs : List Str} {i j : Nat} (hc : ∀ z ∈ cs, Good z) (he : es.length ≤ 1000) : ∀ x ∈ ways es cs i j, okS x.1 := by
  intro x hx
  unfold ways at hx
  simp only [List.mem_append] at hx
  rcases hx with ((((h | h) | h) | h) | h) | h
  · unfold w1 at h
    split at h
    · rename_i hh
      rw [List.mem_singleton.mp h]
      show okS (if _ then _ else _)
      split
      · trivial
      · exact hc _ (gt_mem hh.2)
    · cases h
  · unfold w2 at h
    split at h
    · rw [List.mem_singleton.mp h]; trivial
    · cases h
  · unfold w3 at h
    split at h
    · rename_i hh
      rw [List.mem_singleton.mp h]; exact hc _ (gt_mem hh)
    · cases h
  · unfold w4 at h
    split at h
    · rw [List.mem_singleton.mp h]; trivial
    · cases h
  · unfold w5 at h
    split at h
    · rw [List.mem_singleton.mp h]; trivial
    · cases h
  · unfold w6 at h
    obtain ⟨k, hk, rfl⟩ := List.mem_map.mp h
    have := skips_in hk
    exact ⟨this.1, by omega⟩
/-! ### the ways, as they lie there -/
def wayV (t : Addr) (x : Way) : List V := [.ref t, .int ((x.2.1 : Nat) : Int), .int ((x.2.2 : Nat) : Int)]
structure WaysAt (H : Hp) (as : List Addr) (ws : List Way) : Prop where
  len : as.length = ws.length
  item : ∀ (k : Nat) (a : Addr) (x : Way), as[k]? = some a → ws[k]? = some x → ∃ t, H a = some (.tup (wayV t x)) ∧ H t = some (.tup (stepV x.1))
theorem WaysAt.mono {H H' : Hp} {as : List Addr} {ws : List Way} (S : Same H H') (h : WaysAt H as ws) : WaysAt H' as ws :=
  ⟨h.len, fun k a x e1 e2 => by
    obtain ⟨t, h1, h2⟩ := h.item k a x e1 e2
    exact ⟨t, S _ _ h1, S _ _ h2⟩⟩
theorem WaysAt.nil {H : Hp} : WaysAt H [] [] := ⟨rfl, fun k a x e _ => by simp at e⟩
theorem WaysAt.set {H : Hp} {l : Addr} {ys : List V} {o : HO} {as : List Addr} {ws : List Way} (h : WaysAt H as ws) (hl : H l = some (.lst ys)) : WaysAt (upd H l o) as ws :=
  ⟨h.len, fun k a x e1 e2 => by
    obtain ⟨t, h1, h2⟩ := h.item k a x e1 e2
    have n1 : a ≠ l := fun z => by rw [z, hl] at h1; cases h1
    have n2 : t ≠ l := fun z => by rw [z, hl] at h2; cases h2
    exact ⟨t, by rw [upd_ne n1]; exact h1, by rw [upd_ne n2]; exact h2⟩⟩
theorem WaysAt.app {H : Hp} {as bs : List Addr} {ws vs : List Way} (h : WaysAt H as ws) (h2 : WaysAt H bs vs) : WaysAt H (as ++ bs) (ws ++ vs) := by
  refine ⟨by rw [List.length_append, List.length_append, h.len, h2.len], fun i t st e1 e2 => ?_⟩
  by_cases hi : i < as.length
  · rw [List.getElem?_append_left hi] at e1
    rw [List.getElem?_append_left (by rw [← h.len]; exact hi)] at e2
    exact h.item i t st e1 e2
  · rw [List.getElem?_append_right (by omega)] at e1
    rw [List.getElem?_append_right (by rw [← h.len]; omega), ← h.len] at e2
    exact h2.item _ t st e1 e2
theorem WaysAt.one {H : Hp} {a t : Addr} {x : Way} (h1 : H a = some (.tup (wayV t x))) (h2 : H t = some (.tup (stepV x.1))) : WaysAt H [a] [x] := by
  refine ⟨rfl, fun k a' x' e1 e2 => ?_⟩
  cases k with
  | zero => cases e1; cases e2; exact ⟨t, h1, h2⟩
  | succ k => simp at e1
/-- a way is laid and put behind the others -/
theorem way_add {H H2 : Hp} {l t a : Addr} {as : List Addr} {ws : List Way} {x : Way} (S : Same H H2) (hl : H l = none) (h1 : H2 l = some (.lst (as.map V.ref))) (hW : WaysAt H2 as ws) (ht : H2 t = none) (ha : upd H2 t (.tup (stepV x.1)) a = none) :
    upd (upd H2 t (.tup (stepV x.1))) a (.tup (wayV t x)) l = some (.lst (as.map V.ref)) ∧
    upd (upd (upd H2 t (.tup (stepV x.1))) a (.tup (wayV t x))) l (.lst (as.map V.ref ++ [.ref a])) l = some (.lst ((as ++ [a]).map V.ref)) ∧
    Same H (upd (upd (upd H2 t (.tup (stepV x.1))) a (.tup (wayV t x))) l (.lst (as.map V.ref ++ [.ref a]))) ∧
    WaysAt (upd (upd (upd H2 t (.tup (stepV x.1))) a (.tup (wayV t x))) l (.lst (as.map V.ref ++ [.ref a]))) (as ++ [a]) (ws ++ [x]) := by
  have S1 := same_upd (o := .tup (stepV x.1)) ht
  have S2 := same_upd (o := .tup (wayV t x)) ha
  have k1 := S2 _ _ (S1 _ _ h1)
  refine ⟨k1, by rw [upd_same, List.map_append]; rfl, same_to ((S.trans S1).trans S2) hl, ?_⟩
  refine WaysAt.set ?_ k1
  exact ((hW.mono S1).mono S2).app (WaysAt.one upd_same (S2 _ _ upd_same))
theorem cutV_two (cs : List Str) (j : Nat) : cutV (cs.map V.str) (some ((j : Nat) : Int)) (some (((j : Nat) : Int) + 2)) = ((cs.drop j).take 2).map V.str := by
  have e : ((j : Nat) : Int) + 2 = ((j + 2 : Nat) : Int) := by omega
  unfold cutV
  rw [e, HT.sIx_nat, HT.sIx_nat, List.length_map, ← List.map_drop, ← List.map_take]
  congr 1
  by_cases h : j ≤ cs.length
  · rw [Nat.min_eq_left h]
    by_cases h2 : j + 2 ≤ cs.length
    · rw [Nat.min_eq_left h2, Nat.add_sub_cancel_left]
    · rw [Nat.min_eq_right (by omega), List.take_of_length_le (by rw [List.length_drop]; omega), List.take_of_length_le (by rw [List.length_drop]; omega)]
  · rw [Nat.min_eq_right (by omega), Nat.min_eq_right (by omega), List.drop_of_length_le (Nat.le_refl _), List.drop_of_length_le (by omega)]
    simp
theorem cutTup {K : PySem.W.Frag} {H : Hp} {a : Addr} {xs : List V} {lo hi : Option Int} {Q : VK} (h : SqT K H a xs) (q : ∀ p H', Same H H' → SqT K H' p (cutV xs lo hi) → Q (.ref p) H') : rSlTA K (.ref a) lo hi H Q := by
  refine ⟨a, xs, rfl, h, fun hw => q a H (Same.refl _) ?_, fun _ p hp => q p _ (same_upd hp) (SqT.of upd_same)⟩
  have e : cutV xs lo hi = xs := by
    unfold cutV
    rw [hw.1, hw.2, List.drop_zero, Nat.sub_zero, List.take_length]
  rw [e]; exact h
theorem cutTake {α : Type} (g : α → V) (xs : List α) (n : Nat) : cutV (xs.map g) none (some ((n : Nat) : Int)) = (xs.take n).map g := by
  unfold cutV
  rw [HT.sIx_none, HT.sIx_nat, List.drop_zero, Nat.sub_zero, List.length_map, ← List.map_take]
  congr 1
  by_cases h : n ≤ xs.length
  · rw [Nat.min_eq_left h]
  · rw [Nat.min_eq_right (by omega), List.take_length, List.take_of_length_le (by omega)]
end Vm

set_option Elab.async false
set_option linter.all false
set_option maxRecDepth 100000
set_option maxHeartbeats 4000000
/-! AN APPARATUS as a text: joins by any text, a comprehension over pairs. -/
namespace Vm
open PySem PySem.Spec PyProof.Rows L2 L3
theorem str_ext2 {a b : Str} (h : a.cps.toList = b.cps.toList) : a = b := by rw [← str_mk a, ← str_mk b, h]
theorem app_assoc (a b c : Str) : a ++ b ++ c = a ++ (b ++ c) := str_ext2 (by rw [app_list, app_list, app_list, app_list, List.append_assoc])
theorem nil_app (a : Str) : Str.ofString "" ++ a = a := str_ext2 (by rw [app_list, show (Str.ofString "").cps.toList = [] from by decide +kernel, List.nil_append])
theorem tjoin (sep : Str) (ws : List Str) : Txt.join sep ws = Str.join sep ws := by
  show Builtin.Str.glued sep ws = _
  exact StrLaws.glued_eq_join ..
theorem join_snoc (sep : Str) (z : Str) : ∀ {ws : List Str}, ws ≠ [] → Str.join sep (ws ++ [z]) = Str.join sep ws ++ sep ++ z
  | [], h => absurd rfl h
  | [y], _ => rfl
  | y :: x :: r, _ => by
    show y ++ sep ++ Str.join sep ((x :: r) ++ [z]) = (y ++ sep ++ Str.join sep (x :: r)) ++ sep ++ z
    rw [join_snoc sep z (ws := x :: r) (by simp)]
    simp only [app_assoc]
theorem join_len (sep : Str) : ∀ ws : List Str, (Str.join sep ws).length ≤ (ws.map (·.length)).sum + ws.length * sep.length
  | [] => Nat.zero_le _
  | [z] => by
    show z.length ≤ _
    simp
  | z :: y :: r => by
    have ih := join_len sep (y :: r)
    show (z ++ sep ++ Str.join sep (y :: r)).length ≤ _
    rw [app_len, app_len, List.map_cons, List.sum_cons, List.length_cons, Nat.succ_mul]
    omega
theorem sum_le {ws : List Str} {b : Nat} (h : ∀ z ∈ ws, z.length ≤ b) : (ws.map (·.length)).sum ≤ ws.length * b := by
  induction ws with
  | nil => simp
  | cons z r ih =>
    have := ih fun y hy => h y (List.mem_cons_of_mem _ hy)
    have := h z (List.mem_cons_self ..)
    rw [List.map_cons, List.sum_cons, List.length_cons, Nat.succ_mul]
    omega
theorem join_le {sep : Str} {ws : List Str} {b : Nat} (h : ∀ z ∈ ws, z.length ≤ b) : (Str.join sep ws).length ≤ ws.length * b + ws.length * sep.length := by
  have := join_len sep ws
  have := sum_le h
  omega
theorem numS_le {m k : Nat} (h : m < 10 ^ (k + 1)) : (numS ((m : Nat) : Int)).length ≤ k + 1 := by
  rw [← clen, numS_list, List.length_map]
  exact digits_le k m h
/-- a comprehension over pairs, whose items leave the heap as it is -/
theorem comp_pair {α : Type} {K : PySem.W.Frag} {J : It} {H : Hp} {as : List α} {v : α → V} {x y : α → V} (e : α → V) {te : TE} {Q : VK} {rest : L2.St} (S : Src J H (as.map v)) (hz : as.length ≤ sizeLine)
    (hp : ∀ a ∈ as, ∃ p, v a = .ref p ∧ SqT K H p [x a, y a]) (he : ∀ a ∈ as, ∀ k : VK, k (e a) H → te (some (x a) :: some (y a) :: rest) H k)
    (hq : ∀ D, H D = none → Q (.ref D) (upd H D (.lst (as.map e)))) : wComp J (gTup K 2 (gCons (gName 0) (gCons (gName 1) gNil))) tYes te Q (none :: none :: rest) H := by
  refine ⟨fun i m σ acc H' => H' = H ∧ i ≤ as.length ∧ m = as.length - i ∧ acc = (as.take i).map e ∧ ∃ o1 o2, σ = o1 :: o2 :: rest, ⟨as.length, rfl, Nat.zero_le _, rfl, by simp, none, none, rfl⟩, ?_⟩
  rintro i m σ acc H' ⟨rfl, hi, rfl, rfl, o1, o2, rfl⟩
  have hacc : ((as.take i).map e).length ≤ i := by
    rw [List.length_map, List.length_take]; exact Nat.min_le_left _ _
  by_cases hlt : i < as.length
  · refine .inr ⟨S.go i (by rw [List.length_map]; exact hlt), fun w H1 yl => ?_⟩
    obtain ⟨rfl, hx⟩ := S.yld i w H1 (by rw [List.length_map]; exact hlt) yl
    rw [List.getElem?_map, List.getElem?_eq_getElem hlt] at hx
    have hx' : v as[i] = w := Option.some.inj hx
    subst hx'
    have hm : as[i] ∈ as := List.getElem_mem hlt
    obtain ⟨p, ep, hpp⟩ := hp _ hm
    have ts : as.take (i + 1) = as.take i ++ [as[i]] := List.take_succ_eq_append_getElem hlt
    refine ⟨p, _, ep, hpp, rfl, _, _, rfl, _, _, rfl, rfl, ?_⟩
    show te (some (x as[i]) :: some (y as[i]) :: rest) H1 _
    refine he _ hm _ ⟨by omega, as.length - (i + 1), by omega, rfl, hlt, rfl, ?_, _, _, rfl⟩
    rw [ts, List.map_append]
    rfl
  · have ei : i = as.length := by omega
    subst ei
    refine .inl ⟨S.stop _ (by rw [List.length_map]; exact Nat.le_refl _), by omega, fun D hD => ?_⟩
    rw [List.take_length]
    exact hq D hD
/-! ### readings and notes, and their texts -/
def Ent (v : V) : Prop := v = .non ∨ ∃ z, Good z ∧ v = .str z
/-- columns as they lie there -/
def ColsAt (H : Hp) (cs : List (Addr × List V)) (m : Nat) : Prop := ∀ x ∈ cs, H x.1 = some (.tup x.2) ∧ x.2.length = m ∧ ∀ e ∈ x.2, Ent e
theorem ColsAt.mono {H H' : Hp} {cs : List (Addr × List V)} {m : Nat} (S : Same H H') (h : ColsAt H cs m) : ColsAt H' cs m := fun x hx => ⟨S _ _ (h x hx).1, (h x hx).2⟩
def entS : V → Str
  | .str z => z
  | _ => Str.ofString "-"
theorem ent_len {v : V} (h : Ent v) : (entS v).length ≤ 12 := by
  rcases h with rfl | ⟨z, hz, rfl⟩
  · show (Str.ofString "-").length ≤ 12; decide +kernel
  · exact hz.hi
theorem ent_flat {v : V} (h : Ent v) : flatV v = true := by
  rcases h with rfl | ⟨z, hz, rfl⟩ <;> rfl
theorem ent_scal {v u : V} (h : Ent v) (h2 : Ent u) : scal v u = true := by
  rcases h with rfl | ⟨z, hz, rfl⟩ <;> rcases h2 with rfl | ⟨y, hy, rfl⟩ <;> rfl
abbrev Rdg := V × List Nat
def natV (n : Nat) : V := .int ((n : Nat) : Int)
def rdgS (x : Rdg) : Str := entS x.1 ++ Str.ofString " " ++ Str.join (Str.ofString ",") (x.2.map fun n => numS ((n : Nat) : Int))
def RdgOk (x : Rdg) : Prop := Ent x.1 ∧ x.2.length ≤ 30 ∧ ∀ n ∈ x.2, n < 30
def RdgAt (H : Hp) (t : Addr) (x : Rdg) : Prop := RdgOk x ∧ ∃ r, H t = some (.tup [x.1, .ref r]) ∧ H r = some (.tup (x.2.map natV))
theorem RdgAt.mono {H H' : Hp} {t : Addr} {x : Rdg} (S : Same H H') (h : RdgAt H t x) : RdgAt H' t x := by
  obtain ⟨ho, r, h1, h2⟩ := h
  exact ⟨ho, r, S _ _ h1, S _ _ h2⟩
theorem len_of (z : String) (n : Nat) (h : (Str.ofString z).length = n) : (Str.ofString z).length ≤ n := by omega
theorem rows_len {x : Rdg} (h : RdgOk x) : (Str.join (Str.ofString ",") (x.2.map fun n => numS ((n : Nat) : Int))).length ≤ 100 := by
  have h1 := join_le (sep := Str.ofString ",") (ws := x.2.map fun n => numS ((n : Nat) : Int)) (b := 2) fun z hz => by
    obtain ⟨n, hn, rfl⟩ := List.mem_map.mp hz
    exact numS_le (k := 1) (by have := h.2.2 n hn; omega)
  have h2 : (Str.ofString ",").length = 1 := by decide +kernel
  rw [h2, List.length_map] at h1
  have := h.2.1
  omega
theorem rdg_len {x : Rdg} (h : RdgOk x) : (rdgS x).length ≤ 113 := by
  have h1 := rows_len h
  have h2 : (Str.ofString " ").length = 1 := by decide +kernel
  have h3 := ent_len h.1
  unfold rdgS
  rw [app_len, app_len, h2]
  omega
abbrev Note := Nat × List (Addr × Rdg)
def noteS (x : Note) : Str := numS ((x.1 : Nat) : Int) ++ Str.ofString ": " ++ Str.join (Str.ofString "; ") (x.2.map fun y => rdgS y.2)
def NoteAt (H : Hp) (t : Addr) (x : Note) : Prop := x.1 < 10000 ∧ x.2.length ≤ 30 ∧ (∀ y ∈ x.2, RdgAt H y.1 y.2) ∧ ∃ q, H t = some (.tup [natV x.1, .ref q]) ∧ H q = some (.tup (x.2.map fun y => V.ref y.1))
theorem NoteAt.mono {H H' : Hp} {t : Addr} {x : Note} (S : Same H H') (h : NoteAt H t x) : NoteAt H' t x := by
  obtain ⟨h1, h2, h3, q, h4, h5⟩ := h
  exact ⟨h1, h2, fun y hy => (h3 y hy).mono S, q, S _ _ h4, S _ _ h5⟩
theorem rdgs_len {xs : List (Addr × Rdg)} (h : ∀ y ∈ xs, RdgOk y.2) (hn : xs.length ≤ 30) : (Str.join (Str.ofString "; ") (xs.map fun y => rdgS y.2)).length ≤ 3450 := by
  have h1 := join_le (sep := Str.ofString "; ") (ws := xs.map fun y => rdgS y.2) (b := 113) fun z hz => by
    obtain ⟨y, hy, rfl⟩ := List.mem_map.mp hz
    exact rdg_len (h y hy)
  have h2 : (Str.ofString "; ").length = 2 := by decide +kernel
  rw [h2, List.length_map] at h1
  omega
theorem note_len {H : Hp} {t : Addr} {x : Note} (h : NoteAt H t x) : (noteS x).length ≤ 3500 := by
  have h1 := rdgs_len (xs := x.2) (fun y hy => (h.2.2.1 y hy).1) h.2.1
  have h2 : (Str.ofString ": ").length = 2 := by decide +kernel
  have h3 := numS_le (m := x.1) (k := 3) (by have := h.1; omega)
  unfold noteS
  rw [app_len, app_len, h2]
  omega
def headS (es : List V) : Str := Str.join (Str.ofString " | ") (es.map entS)
theorem head_len {es : List V} (h : ∀ e ∈ es, Ent e) : (headS es).length ≤ 15 * es.length := by
  have h1 := join_le (sep := Str.ofString " | ") (ws := es.map entS) (b := 12) fun z hz => by
    obtain ⟨e, he, rfl⟩ := List.mem_map.mp hz
    exact ent_len (h e he)
  have h2 : (Str.ofString " | ").length = 3 := by decide +kernel
  rw [h2, List.length_map] at h1
  unfold headS
  omega
def appS (es : List V) (ns : List (Addr × Note)) : Str := Str.join (Str.ofString "\n") (headS es :: ns.map fun y => noteS y.2)
end Vm

namespace K30
open PySem PySem.Spec PyProof.Rows L2 L3 Vm
def top (i : Nat) : Stmt := PySem.Challenge.pw_vellum_k30_an_apparatus_written.main.body.getD i (.Pass ⟨0, 0, 0, 0⟩)
abbrev sEW : Stmt := top 2
abbrev sRW : Stmt := top 3
abbrev sNW : Stmt := top 4
abbrev sAW : Stmt := top 5
abbrev sCell : Stmt := top 7
abbrev sDraw : Stmt := top 8
abbrev sWordBy : Stmt := top 9
abbrev sPool : Stmt := top 10
abbrev sCol : Stmt := top 11
abbrev sRd : Stmt := top 12
abbrev sNts : Stmt := top 13
abbrev sLE : Stmt := top 14
abbrev sLW : Stmt := top 15
abbrev sScene : Stmt := top 16
abbrev sLaw : Stmt := top 17
section
variable {P : Program} {w : World} {K : PySem.W.Frag} {mg : Str → Option Value} {base : Heap}
/-- a def of the text, as the others call it -/
structure Dfn (K : PySem.W.Frag) (mg : Str → Option Value) (x : Str) (st : Stmt) (f : Addr) (fd : FuncData) (ps : List Str) : Prop where
  fn : Fun K x x st f fd
  at_ : mg x = some (.ref f)
  bn : Binds K fd ps []
theorem str_ext {a b : Str} (h : a.cps.toList = b.cps.toList) : a = b := by rw [← str_mk a, ← str_mk b, h]
theorem kit_same (v : Value) : PySem.W.kitOne K v v = some true := by
  unfold PySem.W.kitOne
  rw [if_pos (beq_self_eq_true _)]
/-! ### a cell -/
def cellD (ns : List Int) (k : Int) : Int := (ns[k.toNat]?).getD 0
def spCell (K : PySem.W.Frag) : Sp := fun vs H Q _ => ∃ (a : Addr) (ns : List Int) (k : Int), vs = [.ref a, .int k] ∧ SqL K H a (ns.map V.int) ∧ 0 ≤ k ∧ Q (.int (cellD ns k)) H
theorem scCell : FnScope ["script", "k"] ["script", "k"] (defScope sCell) := ⟨rfl, rfl, rfl, by decide +kernel, rfl, by decide +kernel, by decide +kernel⟩
theorem ok_cell {f : Addr} {fd : FuncData} (F : Fun K "_law_cell_at" "_law_cell_at" sCell f fd) (mlen : mg "len" = none) : FnOk P w K mg base CX0 1 f fd ["script", "k"] (spCell K) := by
  refine Fun.okR F scCell (fun vs H Q E h => ?_) (fun cdv A outer s H vs Q Q2 E hr h hq => ?_)
  · obtain ⟨a, ns, k, rfl, _⟩ := h
    rfl
  · obtain ⟨a, ns, k, rfl, hS, h0, q⟩ := h
    refine ⟨_, pss_cons (ps_if (pt_cmpR op_lt (pv 1) (pe_callB call_len_seq (by rfl) mlen PySem.boot_len (pa_cons (pv 0) pa_nil)) (nomark _)) (pss_one (ps_ret (pe_ix ix_list (pv 0) (pv 1) (fun _ _ => rfl)))) pss_nil)
      (pss_one (ps_ret pe_int)), ?_⟩
    refine ⟨_, rfl, _, rfl, a, _, rfl, .inl hS, _, _, rfl, rfl, _, rfl, ?_⟩
    obtain ⟨j, hj⟩ : ∃ j : Nat, k = (j : Int) := ⟨k.toNat, by omega⟩
    subst hj
    refine ite2 (fun h => ?_) (fun h => ?_)
    · have hl := of_decide_eq_true h
      rw [List.length_map] at hl
      have hj' : j < ns.length := by omega
      have e : cellD ns (j : Int) = ns[j] := by unfold cellD; rw [Int.toNat_natCast, List.getElem?_eq_getElem hj']; rfl
      rw [e] at q
      exact ⟨_, rfl, _, rfl, a, _, _, _, rfl, rfl, hS, atI_nat (by rw [List.getElem?_map, List.getElem?_eq_getElem hj']; rfl), hq _ _ (Rst.same (Same.refl H) q)⟩
    · have hl : ¬ ((j : Int) < ((ns.map V.int).length : Int)) := fun c => h (decide_eq_true c)
      rw [List.length_map] at hl
      have e : cellD ns (j : Int) = 0 := by unfold cellD; rw [Int.toNat_natCast, List.getElem?_eq_none (by omega)]; rfl
      rw [e] at q
      exact hq _ _ (Rst.same (Same.refl H) q)
/-! ### letters -/
theorem bits_cell {ns : List Int} (hb : ∀ m ∈ ns, Builtin.Int.intBits m ≤ 1048576) (k : Int) : Builtin.Int.intBits (cellD ns k) ≤ 1048576 := by
  unfold cellD
  cases e : ns[k.toNat]? with
  | none => show Builtin.Int.intBits 0 ≤ _; decide
  | some n => exact hb n (List.mem_of_getElem? e)
theorem letter_at (r : Int) : ∃ c, atI (letters.cps.toList) (r % 26) = some c ∧ Al c := by
  have h0 : 0 ≤ r % 26 := Int.emod_nonneg _ (by decide)
  have h1 : r % 26 < 26 := Int.emod_lt_of_pos _ (by decide)
  have e : r % 26 = ((r % 26).toNat : Int) := by omega
  refine ⟨97 + (r % 26).toNat, ?_, al_mod _ (by omega)⟩
  rw [e]
  refine atI_nat ?_
  rw [letters_cps, List.getElem?_map, List.getElem?_range (by omega)]
  rfl
def Lets (z : Str) (n : Nat) : Prop := z.length = n ∧ ∀ c ∈ z.cps.toList, Al c
theorem lets_app {z : Str} {n c : Nat} (h : Lets z n) (hc : Al c) : Lets (z ++ ⟨#[c]⟩) (n + 1) := by
  refine ⟨by rw [app_len, h.1]; rfl, fun d hd => ?_⟩
  rw [app_list] at hd
  rcases List.mem_append.mp hd with hd | hd
  · exact h.2 d hd
  · have : d = c := by simpa using hd
    rw [this]; exact hc
theorem lets_good {z : Str} {n : Nat} (h : Lets z n) (h1 : 1 ≤ n) (h2 : n ≤ 12) : Good z := ⟨by rw [h.1]; exact h1, by rw [h.1]; exact h2, h.2⟩
/-! ### a draw -/
def mixD (c k : Int) : Int := (c * 2 + 1) * (k * k * 9176023 + 84127918273645463728191) % 170141183460469231731687303715884105727
def drawD (c k m : Int) : Int := mixD c k * (mixD c k + 5) % 170141183460469231731687303715884105727 / 7 % m
theorem draw_lo (c k : Int) {m : Int} (h : 0 < m) : 0 ≤ drawD c k m := Int.emod_nonneg _ (by omega)
theorem draw_hi (c k : Int) {m : Int} (h : 0 < m) : drawD c k m < m := Int.emod_lt_of_pos _ h
def spDraw : Sp := fun vs H Q _ => ∃ c k m : Int, vs = [.int c, .int k, .int m] ∧ Builtin.Int.intBits c ≤ 1048576 ∧ 0 ≤ k ∧ k ≤ 100000 ∧ 0 < m ∧ Q (.int (drawD c k m)) H
theorem scDraw : FnScope ["cell", "k", "many", "prime", "mixed"] ["cell", "k", "many"] (defScope sDraw) := ⟨rfl, rfl, rfl, by decide +kernel, rfl, by decide +kernel, by decide +kernel⟩
theorem ok_draw {f : Addr} {fd : FuncData} (F : Fun K "_law_draw" "_law_draw" sDraw f fd) : FnOk P w K mg base CX0 1 f fd ["cell", "k", "many"] spDraw := by
  refine Fun.okR F scDraw (fun vs H Q E h => ?_) (fun cdv A outer s H vs Q Q2 E hr h hq => ?_)
  · obtain ⟨c, k, m, rfl, _⟩ := h
    rfl
  · obtain ⟨c, k, m, rfl, hb, hk0, hk1, hm, q⟩ := h
    refine ⟨_, pss_cons (ps_set (i := 3) scDraw.nd rfl (Or.inl rfl) pe_int)
      (pss_cons (ps_set (i := 4) scDraw.nd rfl (Or.inl rfl) (pe_op op_mod (pe_op op_mulB (pe_op op_add (pe_op op_mulB (pv 0) pe_int) pe_int) (pe_op op_add (pe_op op_mulB (pe_op op_mulB (pv 1) (pv 1)) pe_int) pe_int)) (pv 3)))
      (pss_one (ps_ret (pe_op op_mod (pe_op op_fdiv (pe_op op_mod (pe_op op_mulB (pv 4) (pe_op op_add (pv 4) pe_int)) (pv 3)) pe_int) (pv 2))))), ?_⟩
    have p0 : (0 : Int) < 170141183460469231731687303715884105727 := by decide
    have bk : Builtin.Int.intBits k ≤ 20 := intBits_le_iff.mpr (by omega)
    have b2 : Builtin.Int.intBits 2 ≤ 2 := by decide +kernel
    have b1 : Builtin.Int.intBits 1 ≤ 1 := by decide +kernel
    have b9 : Builtin.Int.intBits 9176023 ≤ 24 := by decide +kernel
    have b8 : Builtin.Int.intBits 84127918273645463728191 ≤ 77 := by decide +kernel
    have b5 : Builtin.Int.intBits 5 ≤ 3 := by decide +kernel
    have bA := intBits_add_le (intBits_mul_le hb b2) b1
    have bB := intBits_add_le (intBits_mul_le (intBits_mul_le bk bk) b9) b8
    have x0 : 0 ≤ mixD c k := Int.emod_nonneg _ (by decide)
    have x1 : mixD c k < 170141183460469231731687303715884105727 := Int.emod_lt_of_pos _ p0
    have bx : Builtin.Int.intBits (mixD c k) ≤ 127 := intBits_le_iff.mpr (by
      have : (2 : Nat) ^ 127 = 170141183460469231731687303715884105728 := by decide
      rw [this]; omega)
    have by5 := intBits_add_le bx b5
    refine ⟨_, rfl, _, _, rfl, rfl, .of_le hb b2 (by decide), _, _, rfl, rfl, _, rfl, _, rfl, _, _, rfl, rfl, .of_le bk bk (by decide), _, _, rfl, rfl, .of_le (intBits_mul_le bk bk) b9 (by decide), _, _, rfl, rfl, _, _, rfl, rfl, .of_le bA bB (by decide), _, rfl, _, _, rfl, rfl, p0, ?_⟩
    refine ⟨_, rfl, _, rfl, _, _, rfl, rfl, _, _, rfl, rfl, .of_le bx by5 (by decide), _, rfl, _, _, rfl, rfl, p0, _, _, rfl, rfl, ⟨by decide, by decide⟩, _, rfl, _, _, rfl, rfl, hm, hq _ _ (Rst.same (Same.refl H) q)⟩
/-! ### a word by a cell -/
theorem at4 (c k : Int) : ∃ n : Nat, atI [V.int 1, .int 2, .int 3, .int 12] (drawD c k 4) = some (.int ((n : Nat) : Int)) ∧ 1 ≤ n ∧ n ≤ 12 := by
  have h0 := draw_lo c k (m := 4) (by decide)
  have h1 := draw_hi c k (m := 4) (by decide)
  generalize drawD c k 4 = d at h0 h1
  obtain ⟨j, rfl⟩ : ∃ j : Nat, d = (j : Int) := ⟨d.toNat, by omega⟩
  have hj : j < 4 := by omega
  match j, hj with
  | 0, _ => exact ⟨1, rfl, by decide, by decide⟩
  | 1, _ => exact ⟨2, rfl, by decide, by decide⟩
  | 2, _ => exact ⟨3, rfl, by decide, by decide⟩
  | 3, _ => exact ⟨12, rfl, by decide, by decide⟩
def spWordBy : Sp := fun vs H Q _ => ∃ c k : Int, vs = [.int c, .int k] ∧ Builtin.Int.intBits c ≤ 1048576 ∧ 0 ≤ k ∧ k ≤ 100 ∧ ∀ z, Good z → Q (.str z) H
theorem scWordBy : FnScope ["cell", "k", "word", "j"] ["cell", "k"] (defScope sWordBy) := ⟨rfl, rfl, rfl, by decide +kernel, rfl, by decide +kernel, by decide +kernel⟩
theorem ok_wordby {f gD : Addr} {fd dD : FuncData} (F : Fun K "_law_word_by" "_law_word_by" sWordBy f fd) (DD : Dfn K mg "_law_draw" sDraw gD dD ["cell", "k", "many"]) (mrange : mg "range" = none) : FnOk P w K mg base CX0 2 f fd ["cell", "k"] spWordBy := by
  have GD : FnOk P w K mg base CX0 1 gD dD ["cell", "k", "many"] spDraw := ok_draw DD.fn
  refine Fun.okR F scWordBy (fun vs H Q E h => ?_) (fun cdv A outer s H vs Q Q2 E hr h hq => ?_)
  · obtain ⟨c, k, rfl, _⟩ := h
    rfl
  · obtain ⟨c, k, rfl, hb, hk0, hk1, q⟩ := h
    refine ⟨_, pss_cons (ps_set (i := 2) scWordBy.nd rfl (Or.inl rfl) pe_str)
      (pss_cons (ps_for PassesOwn.never rfl (pi_range1 (by rfl) mrange (pa_cons (pe_ix ix_list (pe_lst (pa_cons pe_int (pa_cons pe_int (pa_cons pe_int (pa_cons pe_int pa_nil))))) (pe_call GD hr (by rfl) DD.at_ DD.fn.kp DD.bn .nil pass0 (pa_cons (pv 0) (pa_cons (pe_op op_add (pe_op op_mul pe_int (pv 1)) pe_int) (pa_cons pe_int pa_nil)))) (fun _ _ => rfl)) pa_nil)) (pg_name (i := 3) scWordBy.nd rfl (Or.inl rfl))
        (pss_one (ps_set (i := 2) scWordBy.nd rfl (Or.inl rfl) (pe_op op_add_str (pv 2) (pe_ix ix_str pe_str (pe_call GD hr (by rfl) DD.at_ DD.fn.kp DD.bn .nil pass0 (pa_cons (pv 0) (pa_cons (pe_op op_add (pe_op op_add pe_int (pe_op op_mul pe_int (pv 1))) (pv 3)) (pa_cons pe_int pa_nil)))) (fun _ _ => rfl))))))
      (pss_one (ps_ret (pv 2)))), ?_⟩
    obtain ⟨n, hn, n1, n2⟩ := at4 c (10 * k + 1)
    refine ⟨few (by show 4 ≤ _; omega), fun l hl => ?_⟩
    refine ⟨_, rfl, _, rfl, _, _, rfl, rfl, .inl ⟨by decide, by decide⟩, _, _, rfl, rfl, _, _, _, rfl, hb, (by show (0 : Int) ≤ 10 * k + 1; omega), (by show 10 * k + 1 ≤ 100000; omega), (by show (0 : Int) < 4; decide), l, _, _, _, rfl, rfl, SqL.of upd_same, hn, ((n : Nat) : Int), rfl, by omega, by omega, ?_⟩
    rw [Int.toNat_natCast]
    refine for_range (n := n) (fun i σ H2 => ∃ (z : Str) (v3 : Option V), σ = [some (.int c), some (.int k), some (.str z), v3] ∧ H2 = upd H l (.lst [.int 1, .int 2, .int 3, .int 12]) ∧ Lets z i)
      ⟨Str.ofString "", none, rfl, rfl, by decide +kernel, fun c hc => absurd hc (by rw [show (Str.ofString "").cps.toList = [] from by decide +kernel]; exact List.not_mem_nil)⟩ ?_ ?_
    · rintro i σ H2 hi ⟨z, v3, rfl, rfl, hz⟩
      obtain ⟨d, hd, ad⟩ := letter_at (mixD c (300 + 20 * k + (0 + ((i : Nat) : Int))) * (mixD c (300 + 20 * k + (0 + ((i : Nat) : Int))) + 5) % 170141183460469231731687303715884105727 / 7)
      refine ⟨_, rfl, _, rfl, _, rfl, _, _, rfl, rfl, .inl ⟨by decide, by decide⟩, _, _, rfl, rfl, _, rfl, _, _, rfl, rfl, _, _, _, rfl, hb, (by show (0 : Int) ≤ 300 + 20 * k + (0 + ((i : Nat) : Int)); omega), (by show 300 + 20 * k + (0 + ((i : Nat) : Int)) ≤ 100000; omega), (by show (0 : Int) < 26; decide), letters, _, d, rfl, rfl, (by decide +kernel), hd, _, _, rfl, rfl, few (by rw [hz.1]; show _ + 1 ≤ _; omega), ?_⟩
      exact ⟨_, _, rfl, rfl, lets_app hz ad⟩
    · rintro σ H2 ⟨z, v3, rfl, rfl, hz⟩
      exact ⟨_, rfl, hq _ _ (Rst.same (same_upd hl) (q _ (lets_good hz n1 n2)))⟩
/-! ### a pool of words -/
theorem turned_good {z : Str} (g : Good z) {j d : Nat} (hj : j < z.length) (ad : Al d) : Good (((⟨(z.cps.toList.take j).toArray⟩ : Str) ++ (⟨#[d]⟩ : Str)) ++ (⟨(z.cps.toList.drop (j + 1)).toArray⟩ : Str)) := by
  have hl := g.lo
  have hh := g.hi
  have hz := clen z
  have l1 : (⟨#[d]⟩ : Str).length = 1 := rfl
  refine ⟨?_, ?_, fun c hc => ?_⟩
  · rw [app_len, app_len, l1]
    omega
  · rw [app_len, app_len, l1, mk_len, mk_len, List.length_take, List.length_drop]
    omega
  · rw [app_list, app_list, mk_list, mk_list] at hc
    rcases List.mem_append.mp hc with hc | hc
    · rcases List.mem_append.mp hc with hc | hc
      · exact g.al c (List.mem_of_mem_take hc)
      · have e : c = d := by simpa using hc
        rw [e]; exact ad
    · exact g.al c (List.mem_of_mem_drop hc)
def spPool : Sp := fun vs H Q _ => ∃ c : Int, vs = [.int c] ∧ Builtin.Int.intBits c ≤ 1048576 ∧ ∀ (p : Addr) (ws : List Str), H p = none → ws.length = 5 → (∀ z ∈ ws, Good z) → Q (.ref p) (upd H p (.lst (ws.map V.str)))
theorem scPool : FnScope ["cell", "pool", "at", "letter"] ["cell"] (defScope sPool) := ⟨rfl, rfl, rfl, by decide +kernel, rfl, by decide +kernel, by decide +kernel⟩
theorem nd_kc : (["k", "cell"] : List Str).Nodup := by decide +kernel
theorem ok_pool {f gD gW : Addr} {fd dD dW : FuncData} (F : Fun K "_law_pool" "_law_pool" sPool f fd) (DD : Dfn K mg "_law_draw" sDraw gD dD ["cell", "k", "many"]) (DW : Dfn K mg "_law_word_by" sWordBy gW dW ["cell", "k"]) (mrange : mg "range" = none) (mlen : mg "len" = none) : FnOk P w K mg base CX0 3 f fd ["cell"] spPool := by
  have GD : FnOk P w K mg base CX0 2 gD dD ["cell", "k", "many"] spDraw := (ok_draw DD.fn).mono (by decide)
  have GW : FnOk P w K mg base CX0 2 gW dW ["cell", "k"] spWordBy := ok_wordby DW.fn DD mrange
  refine Fun.okR F scPool (fun vs H Q E h => ?_) (fun cdv A outer s H vs Q Q2 E hr h hq => ?_)
  · obtain ⟨c, rfl, _⟩ := h
    rfl
  · obtain ⟨c, rfl, hb, q⟩ := h
    refine ⟨_, pss_cons (ps_setC (i := 1) (Nc := ["k", "cell"]) (mp := [none, some 0]) rfl scPool.nd rfl rfl (CompOk.of (by rfl)) (pi_range1 (by rfl) mrange (pa_cons pe_int pa_nil)) (fun cl C s H fp => ⟨pg_name (i := 0) nd_kc rfl (Or.inl rfl), pts_nil, pe_call GW hr (by rfl) DW.at_ DW.fn.kp DW.bn .nil pass0 (pa_cons (pv 1) (pa_cons (pv 0) pa_nil))⟩))
      (pss_cons (ps_set (i := 2) scPool.nd rfl (Or.inl rfl) (pe_call GD hr (by rfl) DD.at_ DD.fn.kp DD.bn .nil pass0 (pa_cons (pv 0) (pa_cons pe_int (pa_cons (pe_callB call_len_str (by rfl) mlen PySem.boot_len (pa_cons (pe_ix ix_list (pv 1) pe_int (fun _ _ => rfl)) pa_nil)) pa_nil)))))
      (pss_cons (ps_set (i := 3) scPool.nd rfl (Or.inl rfl) (pe_ix ix_str pe_str (pe_call GD hr (by rfl) DD.at_ DD.fn.kp DD.bn .nil pass0 (pa_cons (pv 0) (pa_cons pe_int (pa_cons pe_int pa_nil)))) (fun _ _ => rfl)))
      (pss_one (ps_ret (pe_op op_cat (pv 1) (pe_lst (pa_cons (pe_op op_add_str (pe_op op_add_str (pe_slice sl_str (pe_ix ix_list (pv 1) pe_int (fun _ _ => rfl)) po_none (po_some (pv 2))) (pv 3)) (pe_slice sl_str (pe_ix ix_list (pv 1) pe_int (fun _ _ => rfl)) (po_some (pe_op op_add (pv 2) pe_int)) po_none)) pa_nil))))))), ?_⟩
    refine ⟨4, rfl, by decide, by decide, ?_⟩
    refine comp_grow (as := List.range 4) (v := fun k => .int (0 + ((k : Nat) : Int))) (fun i acc H' => H' = H ∧ ∃ ws : List Str, acc = ws.map V.str ∧ ws.length = i ∧ ∀ z ∈ ws, Good z) (fun i acc H' _ ⟨e, _⟩ => by rw [e]; exact src_range 0 4 H) (by rw [List.length_range]; exact few (by omega))
      ⟨rfl, [], rfl, rfl, fun _ z => nomatch z⟩ (fun i acc H' ⟨_, ws, e, hl, _⟩ => by rw [e, List.length_map, hl]) ?_ ?_
    · rintro i k acc H' hk ⟨rfl, ws, rfl, hl, hw⟩ kk hkk
      have hk' : k < 4 := List.mem_range.mp (List.mem_of_getElem? hk)
      refine ⟨_, rfl, _, rfl, _, _, rfl, hb, (by show (0 : Int) ≤ 0 + ((k : Nat) : Int); omega), (by show 0 + ((k : Nat) : Int) ≤ 100; omega), fun z hz => hkk _ _ ⟨rfl, ws ++ [z], by rw [List.map_append]; rfl, by rw [List.length_append, hl]; rfl, fun y hy => ?_⟩⟩
      rcases List.mem_append.mp hy with hy | hy
      · exact hw y hy
      · rw [List.mem_singleton.mp hy]; exact hz
    · rintro acc H' ⟨rfl, ws, rfl, hl, hw⟩ D hD
      rw [List.length_range] at hl
      have SD := same_upd (o := .lst (ws.map V.str)) hD
      obtain ⟨z, rs, rfl⟩ : ∃ z rs, ws = z :: rs := by
        cases ws with
        | nil => simp at hl
        | cons z rs => exact ⟨z, rs, rfl⟩
      have g : Good z := hw z (List.mem_cons_self ..)
      have glo := g.lo
      have ghi := g.hi
      have hm : (0 : Int) < (z.length : Int) := by omega
      have h0 := draw_lo c 61 hm
      have h1 := draw_hi c 61 hm
      obtain ⟨j, hj⟩ : ∃ j : Nat, drawD c 61 (z.length : Int) = (j : Int) := ⟨(drawD c 61 (z.length : Int)).toNat, by omega⟩
      obtain ⟨d, hd, ad⟩ := letter_at (mixD c 62 * (mixD c 62 + 5) % 170141183460469231731687303715884105727 / 7)
      have c1 : cutL z.cps.toList none (some (drawD c 61 (z.length : Int))) = z.cps.toList.take j := by rw [hj]; exact cutL_take _ j
      have c2 : cutL z.cps.toList (some (drawD c 61 (z.length : Int) + 1)) none = z.cps.toList.drop (j + 1) := by
        rw [hj, show ((j : Int) + 1) = ((j + 1 : Nat) : Int) by omega]; exact cutL_drop _ _
      have hz := clen z
      have l1 : (⟨#[d]⟩ : Str).length = 1 := rfl
      have s1 : (⟨(cutL z.cps.toList none (some (drawD c 61 (z.length : Int)))).toArray⟩ : Str).length + (⟨#[d]⟩ : Str).length ≤ sizeLine := by
        rw [c1, l1, mk_len, List.length_take]
        exact few (by omega)
      have s2 : ((⟨(cutL z.cps.toList none (some (drawD c 61 (z.length : Int)))).toArray⟩ : Str) ++ (⟨#[d]⟩ : Str)).length + (⟨(cutL z.cps.toList (some (drawD c 61 (z.length : Int) + 1)) none).toArray⟩ : Str).length ≤ sizeLine := by
        rw [app_len, c1, c2, l1, mk_len, mk_len, List.length_take, List.length_drop]
        exact few (by omega)
      have s3 : Good (((⟨(cutL z.cps.toList none (some (drawD c 61 (z.length : Int)))).toArray⟩ : Str) ++ (⟨#[d]⟩ : Str)) ++ (⟨(cutL z.cps.toList (some (drawD c 61 (z.length : Int) + 1)) none).toArray⟩ : Str)) := by
        rw [c1, c2]
        exact turned_good g (by omega) ad
      have uD : upd H' D (.lst ((z :: rs).map V.str)) D = some (.lst ((z :: rs).map V.str)) := upd_same
      have a0 : atI ((z :: rs).map V.str) 0 = some (.str z) := atI_nat (j := 0) rfl
      generalize upd H' D (.lst ((z :: rs).map V.str)) = H1 at SD uD
      refine ⟨_, rfl, _, rfl, D, _, _, _, rfl, rfl, SqL.of uD, a0, z, rfl, g.small, _, _, _, rfl, hb, (by show (0 : Int) ≤ 61; decide), (by show (61 : Int) ≤ 100000; decide), hm, ?_⟩
      refine ⟨_, rfl, _, _, _, rfl, hb, (by show (0 : Int) ≤ 62; decide), (by show (62 : Int) ≤ 100000; decide), (by show (0 : Int) < 26; decide), letters, _, d, rfl, rfl, (by decide +kernel), hd, ?_⟩
      refine ⟨_, rfl, _, rfl, D, _, _, _, rfl, rfl, SqL.of uD, a0, _, rfl, _, rfl, z, rfl, g.small, _, rfl, _, _, rfl, rfl, s1, _, rfl, D, _, _, _, rfl, rfl, SqL.of uD, a0, _, rfl, _, _, rfl, rfl, _, rfl, z, rfl, g.small, _, _, rfl, rfl, s2, few (by show 1 ≤ _; omega), fun l2 hl2 => ?_⟩
      have S2 := fun y => same_upd (o := .lst [.str y]) hl2
      refine ⟨D, l2, _, _, rfl, rfl, S2 _ _ _ uD, upd_same, (by rw [List.length_map, hl]; exact few (by show 4 + 1 ≤ _; omega)), fun l3 hl3 => ?_⟩
      have S3 := fun xs => same_upd (o := .lst xs) hl3
      have := q l3 ((z :: rs) ++ [_]) (SD.free ((S2 _).free hl3)) (by rw [List.length_append, hl]; rfl) (fun y hy => (List.mem_append.mp hy).elim (hw y) fun hy => by rw [List.mem_singleton.mp hy]; exact s3)
      exact hq _ _ (Rst.one ((SD.trans (S2 _)).trans (S3 _)) (SD.free ((S2 _).free hl3)) upd_same trivial (by rw [List.map_append] at this; exact this))
/-! ### a column by a cell -/
def spCol : Sp := fun vs H Q _ => ∃ (c : Int) (a : Addr) (m : Nat) (ws : List Str), vs = [.int c, .ref a, .int ((m : Nat) : Int)] ∧ Builtin.Int.intBits c ≤ 1048576 ∧ H a = some (.lst (ws.map V.str)) ∧ ws.length ≤ 100 ∧ (∀ z ∈ ws, Good z) ∧ 1 ≤ m ∧ m ≤ 100 ∧ ∀ (p : Addr) (es : List V), H p = none → es.length = m → (∀ e ∈ es, Ent e) → Q (.ref p) (upd H p (.tup es))
theorem scCol : FnScope ["cell", "pool", "many", "some", "column", "k", "entry"] ["cell", "pool", "many"] (defScope sCol) := ⟨rfl, rfl, rfl, by decide +kernel, rfl, by decide +kernel, by decide +kernel⟩
theorem some_at {ws : List Str} (hg : ∀ z ∈ ws, Good z) (c k : Int) : ∃ v, atI (ws.map V.str ++ [V.non]) (drawD c k ((ws.map V.str ++ [V.non]).length : Int)) = some v ∧ Ent v := by
  have hm : (0 : Int) < ((ws.map V.str ++ [V.non]).length : Int) := by rw [List.length_append]; show (0 : Int) < ((_ + 1 : Nat) : Int); omega
  have h0 := draw_lo c k hm
  have h1 := draw_hi c k hm
  obtain ⟨j, hj⟩ : ∃ j : Nat, drawD c k ((ws.map V.str ++ [V.non]).length : Int) = (j : Int) := ⟨(drawD c k ((ws.map V.str ++ [V.non]).length : Int)).toNat, by omega⟩
  have hjl : j < (ws.map V.str ++ [V.non]).length := by omega
  refine ⟨(ws.map V.str ++ [V.non])[j], by rw [hj]; exact atI_nat (List.getElem?_eq_getElem hjl), ?_⟩
  rcases List.mem_append.mp (List.getElem_mem hjl) with h | h
  · obtain ⟨z, hz, e⟩ := List.mem_map.mp h
    exact .inr ⟨z, hg z hz, e.symm⟩
  · exact .inl (List.mem_singleton.mp h)
theorem ok_col {f gD : Addr} {fd dD : FuncData} (F : Fun K "_law_column_by" "_law_column_by" sCol f fd) (DD : Dfn K mg "_law_draw" sDraw gD dD ["cell", "k", "many"]) (mrange : mg "range" = none) (mlen : mg "len" = none) (mtup : mg "tuple" = none) : FnOk P w K mg base CX0 2 f fd ["cell", "pool", "many"] spCol := by
  have GD : FnOk P w K mg base CX0 1 gD dD ["cell", "k", "many"] spDraw := ok_draw DD.fn
  refine Fun.okR F scCol (fun vs H Q E h => ?_) (fun cdv A outer s H vs Q Q2 E hr h hq => ?_)
  · obtain ⟨c, a, m, ws, rfl, _⟩ := h
    rfl
  · obtain ⟨c, a, m, ws, rfl, hb, ha, hwl, hg, m1, m2, q⟩ := h
    refine ⟨_, pss_cons (ps_set (i := 3) scCol.nd rfl (Or.inl rfl) (pe_op op_cat (pv 1) (pe_lst (pa_cons pe_non pa_nil))))
      (pss_cons (ps_set (i := 4) scCol.nd rfl (Or.inl rfl) (pe_lst (pa_cons (pe_ix ix_list (pv 3) (pe_call GD hr (by rfl) DD.at_ DD.fn.kp DD.bn .nil pass0 (pa_cons (pv 0) (pa_cons pe_int (pa_cons (pe_callB call_len_seq (by rfl) mlen PySem.boot_len (pa_cons (pv 3) pa_nil)) pa_nil)))) (fun _ _ => rfl)) pa_nil)))
      (pss_cons (ps_for PassesOwn.never rfl (pi_range2 (by rfl) mrange (pa_cons pe_int (pa_cons (pv 2) pa_nil))) (pg_name (i := 5) scCol.nd rfl (Or.inl rfl))
        (pss_cons (ps_set (i := 6) scCol.nd rfl (Or.inl rfl) (pe_ix ix_list (pv 4) pe_int (fun _ _ => rfl)))
        (pss_cons (ps_mid (ps_if (pt_cmpR op_eq (pe_call GD hr (by rfl) DD.at_ DD.fn.kp DD.bn .nil pass0 (pa_cons (pv 0) (pa_cons (pe_op op_add pe_int (pv 5)) (pa_cons pe_int pa_nil)))) pe_int (nomark _)) (pss_one (ps_set (i := 6) scCol.nd rfl (Or.inl rfl) (pe_ix ix_list (pv 3) (pe_call GD hr (by rfl) DD.at_ DD.fn.kp DD.bn .nil pass0 (pa_cons (pv 0) (pa_cons (pe_op op_add pe_int (pv 5)) (pa_cons (pe_callB call_len_seq (by rfl) mlen PySem.boot_len (pa_cons (pv 3) pa_nil)) pa_nil)))) (fun _ _ => rfl)))) pss_nil))
        (pss_one (ps_expr (pe_bm PySem.F.plainAttrs_list PySem.F.slot_list_append PySem.F.type_list_append mt_append (pv 4) (pa_cons (pv 6) pa_nil)))))))
      (pss_one (ps_ret (pe_callTy call_tuple_of (by rfl) mtup boot_tuple (pa_cons (pv 4) pa_nil)))))), ?_⟩
    refine ⟨_, rfl, few (by show 1 ≤ _; omega), fun l1 hl1 => ?_⟩
    have S1 := same_upd (o := .lst [V.non]) hl1
    refine ⟨a, l1, _, _, rfl, rfl, S1 _ _ ha, upd_same, (by rw [List.length_map]; exact few (by show _ + 1 ≤ _; omega)), fun l2 hl2 => ?_⟩
    have S2 := same_upd (o := .lst (ws.map V.str ++ [V.non])) hl2
    have hs : upd (upd H l1 (.lst [V.non])) l2 (.lst (ws.map V.str ++ [V.non])) l2 = some (.lst (ws.map V.str ++ [V.non])) := upd_same
    have S12 := S1.trans S2
    generalize upd (upd H l1 (.lst [V.non])) l2 (.lst (ws.map V.str ++ [V.non])) = H2 at S12 hs
    have hm : (0 : Int) < ((ws.map V.str ++ [V.non]).length : Int) := by rw [List.length_append]; show (0 : Int) < ((_ + 1 : Nat) : Int); omega
    obtain ⟨v0, a0, e0⟩ := some_at hg c 1
    refine ⟨_, rfl, _, rfl, _, rfl, l2, _, rfl, .inl (SqL.of hs), _, _, _, rfl, hb, (by show (0 : Int) ≤ 1; decide), (by show (1 : Int) ≤ 100000; decide), hm, l2, _, _, _, rfl, rfl, SqL.of hs, a0, few (by show 1 ≤ _; omega), fun l3 hl3 => ?_⟩
    have S3 := same_upd (o := .lst [v0]) hl3
    refine ⟨_, rfl, 1, ((m : Nat) : Int), rfl, ⟨by decide, by decide, by omega, by omega⟩, ?_⟩
    rw [show (((m : Nat) : Int) - 1).toNat = m - 1 by omega]
    refine for_range (fun i σ H4 => ∃ (es : List V) (v5 v6 : Option V), σ = [some (.int c), some (.ref a), some (.int ((m : Nat) : Int)), some (.ref l2), some (.ref l3), v5, v6] ∧ H4 l3 = some (.lst es) ∧ Same H2 H4 ∧ es.length = i + 1 ∧ ∀ e ∈ es, Ent e)
      ⟨[v0], none, none, rfl, upd_same, S3, rfl, fun e he => by rw [List.mem_singleton.mp he]; exact e0⟩ ?_ ?_
    · rintro i σ H4 hi ⟨es, v5, v6, rfl, h4, S4, hel, hE⟩
      obtain ⟨x0, xs, rfl⟩ : ∃ x0 xs, es = x0 :: xs := by
        cases es with
        | nil => simp at hel
        | cons x0 xs => exact ⟨x0, xs, rfl⟩
      have hs4 := S4 _ _ hs
      refine ⟨_, rfl, l3, _, _, _, rfl, rfl, SqL.of h4, atI_nat (j := 0) rfl, ?_⟩
      refine ⟨fun σ' H' => ∃ v : V, σ' = [some (.int c), some (.ref a), some (.int ((m : Nat) : Int)), some (.ref l2), some (.ref l3), some (.int (1 + ((i : Nat) : Int))), some v] ∧ H' = H4 ∧ Ent v, ?_, ?_⟩
      · refine ⟨_, rfl, _, rfl, _, _, rfl, rfl, _, _, _, rfl, hb, (by show (0 : Int) ≤ 20 + (1 + ((i : Nat) : Int)); omega), (by show 20 + (1 + ((i : Nat) : Int)) ≤ 100000; omega), (by show (0 : Int) < 3; decide), rfl, _, rfl, ?_⟩
        refine ite2 (fun _ => ?_) (fun _ => ⟨x0, rfl, rfl, hE _ (List.mem_cons_self ..)⟩)
        obtain ⟨v1, a1, e1⟩ := some_at hg c (60 + (1 + ((i : Nat) : Int)))
        exact ⟨_, rfl, _, rfl, _, rfl, _, _, rfl, rfl, _, rfl, l2, _, rfl, .inl (SqL.of hs4), _, _, _, rfl, hb, (by show (0 : Int) ≤ 60 + (1 + ((i : Nat) : Int)); omega), (by show 60 + (1 + ((i : Nat) : Int)) ≤ 100000; omega), hm, l2, _, _, _, rfl, rfl, SqL.of hs4, a1, v1, rfl, rfl, e1⟩
      · rintro σ' H' ⟨v, rfl, rfl, hv⟩
        refine ⟨_, rfl, .inl ⟨rfl, _, SqL.of h4⟩, _, rfl, l3, _, _, rfl, rfl, h4, (by rw [hel]; exact fewer (by omega)), (x0 :: xs) ++ [v], _, _, rfl, upd_same, same_to S4 hl3, by rw [List.length_append, hel]; rfl, fun e he => ?_⟩
        rcases List.mem_append.mp he with he | he
        · exact hE e he
        · rw [List.mem_singleton.mp he]; exact hv
    · rintro σ H4 ⟨es, v5, v6, rfl, h4, S4, hel, hE⟩
      refine ⟨_, rfl, l3, _, rfl, .inl ⟨SqL.of h4, fun p hp => ?_⟩⟩
      have S5 := same_upd (o := .tup es) hp
      have hn := S12.free (S4.free hp)
      exact hq _ _ (Rst.one ((S12.trans S4).trans S5) hn upd_same trivial (q p es hn (by omega) hE))
theorem headS_eq (es : List V) : headS es = Str.join (Str.ofString " | ") (es.map entS) := rfl
/-! ### an apparatus written -/
def spEW : Sp := fun vs H Q _ => ∃ v, vs = [v] ∧ Ent v ∧ Q (.str (entS v)) H
theorem scEW : FnScope ["entry"] ["entry"] (defScope sEW) := ⟨rfl, rfl, rfl, by decide +kernel, rfl, by decide +kernel, by decide +kernel⟩
theorem ok_ew {f : Addr} {fd : FuncData} (F : Fun K "entry_written" "entry_written" sEW f fd) {tn : Tok} (mN : mg "NO_ENTRY" = some (.str (Str.ofString "-") tn)) : FnOk P w K mg base CX0 1 f fd ["entry"] spEW := by
  refine Fun.okR F scEW (fun vs H Q E h => ?_) (fun cdv A outer s H vs Q Q2 E hr h hq => ?_)
  · obtain ⟨v, rfl, _⟩ := h
    rfl
  · obtain ⟨v, rfl, hv, q⟩ := h
    refine ⟨_, pss_one (ps_ret (pe_ifExp (pt_cmpR op_isN (pv 0) pe_non (nomark _)) (pe_glob (v := .str (Str.ofString "-")) (by rfl) mN ⟨_, rfl⟩) (pv 0))), ?_⟩
    have go : Q2 (.str (entS v)) H := hq _ _ (Rst.same (Same.refl H) q)
    refine ⟨_, rfl, rfl, _, rfl, ?_⟩
    rcases hv with rfl | ⟨z, _, rfl⟩
    · exact iteY rfl go
    · exact iteK (fun z => nomatch z) ⟨_, rfl, go⟩
def spRW (K : PySem.W.Frag) : Sp := fun vs H Q _ => ∃ (e : V) (r : Addr) (rows : List Nat), vs = [e, .ref r] ∧ SqT K H r (rows.map natV) ∧ RdgOk (e, rows) ∧ Q (.str (rdgS (e, rows))) H
theorem scRW : FnScope ["entry", "rows"] ["entry", "rows"] (defScope sRW) := ⟨rfl, rfl, rfl, by decide +kernel, rfl, by decide +kernel, by decide +kernel⟩
theorem nd_row : (["row"] : List Str).Nodup := by decide +kernel
theorem ok_rw {f gE : Addr} {fd dE : FuncData} (F : Fun K "reading_written" "reading_written" sRW f fd) (DE : Dfn K mg "entry_written" sEW gE dE ["entry"]) (mstr : mg "str" = none) {tn : Tok} (mN : mg "NO_ENTRY" = some (.str (Str.ofString "-") tn)) : FnOk P w K mg base CX0 2 f fd ["entry", "rows"] (spRW K) := by
  have GE : FnOk P w K mg base CX0 1 gE dE ["entry"] spEW := ok_ew DE.fn mN
  refine Fun.okR F scRW (fun vs H Q E h => ?_) (fun cdv A outer s H vs Q Q2 E hr h hq => ?_)
  · obtain ⟨e, r, rows, rfl, _⟩ := h
    rfl
  · obtain ⟨e, r, rows, rfl, hr1, ho, q⟩ := h
    refine ⟨_, pss_one (ps_ret (pe_op op_add_str (pe_op op_add_str (pe_call GE hr (by rfl) DE.at_ DE.fn.kp DE.bn .nil pass0 (pa_cons (pv 0) pa_nil)) pe_str) (pe_bm PySem.F.plainAttrs_str PySem.F.slot_str_join PySem.F.type_str_join mt_join pe_str (pa_cons (pe_comp (Nc := ["row"]) (mp := [none]) rfl (CompOk.of (by rfl)) (pi_tup (pv 1))
      (fun cl C s H fp => ⟨pg_name (i := 0) nd_row rfl (Or.inl rfl), pts_nil, pe_callTy call_str_any (by rfl) mstr boot_str (pa_cons (pv 0) pa_nil)⟩)) pa_nil)))), ?_⟩
    have l12 : (entS e).length ≤ 12 := ent_len ho.1
    have l1 : (Str.ofString " ").length = 1 := by decide +kernel
    have hrl : (Str.join (Str.ofString ",") (rows.map fun n => numS ((n : Nat) : Int))).length ≤ 100 := rows_len ho
    refine ⟨_, rfl, e, rfl, ho.1, _, _, rfl, rfl, few (by rw [l1]; omega), rfl, _, rfl, r, rfl, ⟨_, hr1⟩, comp_map (as := rows) (v := natV) (fun n => .str (numS ((n : Nat) : Int))) (src_tup hr1) (few (by have h30 : rows.length ≤ 30 := ho.2.1; omega)) (fun n hn k hk => ?_) (fun D hD => ?_)⟩
    · have := ho.2.2 n hn
      exact ⟨_, rfl, .inl ⟨((n : Nat) : Int), rfl, log_ok (by omega) (by omega), hk⟩⟩
    · refine ⟨_, D, rows.map fun n => numS ((n : Nat) : Int), rfl, rfl, .inl (SqL.of (by rw [upd_same, List.map_map]; rfl)), ?_, ?_⟩
      · have h2 : (Str.ofString ",").length = 1 := by decide +kernel
        have h3 := sum_le (ws := rows.map fun n => numS ((n : Nat) : Int)) (b := 2) fun z hz => by
          obtain ⟨n, hn, rfl⟩ := List.mem_map.mp hz
          exact numS_le (k := 1) (by have := ho.2.2 n hn; omega)
        have h4 : rows.length ≤ 30 := ho.2.1
        rw [List.length_map] at h3
        rw [h2, List.length_map]
        omega
      · rw [tjoin]
        refine ⟨_, _, rfl, rfl, few (by rw [app_len, l1]; omega), hq _ _ (Rst.same (same_upd hD) q)⟩
def spNW (K : PySem.W.Frag) : Sp := fun vs H Q _ => ∃ (n : Nat) (p : Addr) (xs : List (Addr × Rdg)), vs = [natV n, .ref p] ∧ SqT K H p (xs.map fun y => V.ref y.1) ∧ (∀ y ∈ xs, RdgAt H y.1 y.2) ∧ xs.length ≤ 30 ∧ n < 10000 ∧ Q (.str (noteS (n, xs))) H
theorem scNW : FnScope ["number", "readings"] ["number", "readings"] (defScope sNW) := ⟨rfl, rfl, rfl, by decide +kernel, rfl, by decide +kernel, by decide +kernel⟩
theorem nd_er : (["entry", "rows"] : List Str).Nodup := by decide +kernel
theorem pg_tupK {X : Cx} {es : List Expr} {k : Nat} {t : TGs} {n : Nat} {pos : Pos} (hK : X.K = K) (hc : X.calm = true) (h : PGs X es t)
    (hn : (assignEach es X.env).length = n := by rfl) (hst : (assignEach es X.env).findIdx? (·.1) = none := by rfl) : PG X (.Tuple es k pos) (gTup K n t) := by
  subst hK
  exact pg_tup hc h hn hst
theorem ok_nw {f gE gR : Addr} {fd dE dR : FuncData} (F : Fun K "note_written" "note_written" sNW f fd) (DE : Dfn K mg "entry_written" sEW gE dE ["entry"]) (DR : Dfn K mg "reading_written" sRW gR dR ["entry", "rows"]) (mstr : mg "str" = none) {tn : Tok} (mN : mg "NO_ENTRY" = some (.str (Str.ofString "-") tn)) : FnOk P w K mg base CX0 3 f fd ["number", "readings"] (spNW K) := by
  have GR : FnOk P w K mg base CX0 2 gR dR ["entry", "rows"] (spRW K) := ok_rw DR.fn DE mstr mN
  refine Fun.okR F scNW (fun vs H Q E h => ?_) (fun cdv A outer s H vs Q Q2 E hr h hq => ?_)
  · obtain ⟨n, p, xs, rfl, _⟩ := h
    rfl
  · obtain ⟨n, p, xs, rfl, hp, hX, hl, hn, q⟩ := h
    refine ⟨_, pss_one (ps_ret (pe_op op_add_str (pe_op op_add_str (pe_callTy call_str_any (by rfl) mstr boot_str (pa_cons (pv 0) pa_nil)) pe_str) (pe_bm PySem.F.plainAttrs_str PySem.F.slot_str_join PySem.F.type_str_join mt_join pe_str (pa_cons (pe_comp (Nc := ["entry", "rows"]) (mp := [none, none]) rfl (CompOk.of (by rfl)) (pi_tup (pv 1))
      (fun cl C s H fp => ⟨pg_tupK (K := K) (n := 2) rfl rfl (pgs_cons (pg_name (i := 0) nd_er rfl (Or.inl rfl)) (pgs_cons (pg_name (i := 1) nd_er rfl (Or.inl rfl)) pgs_nil)), pts_nil, pe_call GR hr (by rfl) DR.at_ DR.fn.kp DR.bn .nil pass0 (pa_cons (pv 0) (pa_cons (pv 1) pa_nil))⟩)) pa_nil)))), ?_⟩
    have l2 : (Str.ofString ": ").length = 2 := by decide +kernel
    have l4 := numS_le (m := n) (k := 3) (by omega)
    have hrl := rdgs_len (fun y hy => (hX y hy).1) hl
    obtain ⟨ra, hra⟩ : ∃ ra : Addr × Rdg → Addr, ∀ y ∈ xs, H y.1 = some (.tup [y.2.1, .ref (ra y)]) ∧ H (ra y) = some (.tup (y.2.2.map natV)) := by
      classical
      refine ⟨fun y => if h : ∃ r, H y.1 = some (.tup [y.2.1, .ref r]) ∧ H r = some (.tup (y.2.2.map natV)) then h.choose else y.1, fun y hy => ?_⟩
      have h := (hX y hy).2
      dsimp only
      rw [dif_pos h]
      exact h.choose_spec
    refine ⟨_, rfl, .inl ⟨((n : Nat) : Int), rfl, log_ok (by omega) (by omega), _, _, rfl, rfl, few (by rw [l2]; show (numS ((n : Nat) : Int)).length + 2 ≤ _; omega), rfl, _, rfl, p, rfl, ⟨_, hp⟩, comp_pair (K := K) (as := xs) (v := fun y => V.ref y.1) (x := fun y => y.2.1) (y := fun y => V.ref (ra y)) (fun y => .str (rdgS y.2)) (src_tup hp) (few (by omega)) (fun y hy => ⟨y.1, rfl, SqT.of (hra y hy).1⟩) (fun y hy k hk => ?_) (fun D hD => ?_)⟩⟩
    · exact ⟨_, rfl, _, rfl, y.2.1, ra y, y.2.2, rfl, SqT.of (hra y hy).2, (hX y hy).1, hk⟩
    · refine ⟨_, D, xs.map fun y => rdgS y.2, rfl, rfl, .inl (SqL.of (by rw [upd_same, List.map_map]; rfl)), ?_, ?_⟩
      · have h2 : (Str.ofString "; ").length = 2 := by decide +kernel
        have h3 := sum_le (ws := xs.map fun y => rdgS y.2) (b := 113) fun z hz => by
          obtain ⟨y, hy, rfl⟩ := List.mem_map.mp hz
          exact rdg_len (hX y hy).1
        rw [List.length_map] at h3
        rw [h2, List.length_map]
        omega
      · rw [tjoin]
        refine ⟨_, _, rfl, rfl, few (by rw [app_len, l2]; show (numS ((n : Nat) : Int)).length + 2 + _ ≤ 100000; omega), hq _ _ (Rst.same (same_upd hD) q)⟩
def spAW (K : PySem.W.Frag) : Sp := fun vs H Q _ => ∃ (p r : Addr) (es : List V) (ns : List (Addr × Note)), vs = [.ref p, .ref r] ∧ SqT K H p es ∧ (∀ e ∈ es, Ent e) ∧ SqT K H r (ns.map fun y => V.ref y.1) ∧ (∀ y ∈ ns, NoteAt H y.1 y.2) ∧ es.length ≤ 1200 ∧ ns.length ≤ 1200 ∧ Q (.str (appS es ns)) H
theorem scAW : FnScope ["entries", "notes", "lines"] ["entries", "notes"] (defScope sAW) := ⟨rfl, rfl, rfl, by decide +kernel, rfl, by decide +kernel, by decide +kernel⟩
theorem nd_entry : (["entry"] : List Str).Nodup := by decide +kernel
theorem nd_nr : (["number", "readings"] : List Str).Nodup := by decide +kernel
theorem ok_aw {f gE gR gN : Addr} {fd dE dR dN : FuncData} (F : Fun K "apparatus_written" "apparatus_written" sAW f fd) (DE : Dfn K mg "entry_written" sEW gE dE ["entry"]) (DR : Dfn K mg "reading_written" sRW gR dR ["entry", "rows"]) (DN : Dfn K mg "note_written" sNW gN dN ["number", "readings"]) (mstr : mg "str" = none) {tn : Tok} (mN : mg "NO_ENTRY" = some (.str (Str.ofString "-") tn)) : FnOk P w K mg base CX0 4 f fd ["entries", "notes"] (spAW K) := by
  have GE : FnOk P w K mg base CX0 3 gE dE ["entry"] spEW := (ok_ew DE.fn mN).mono (by decide)
  have GN : FnOk P w K mg base CX0 3 gN dN ["number", "readings"] (spNW K) := ok_nw DN.fn DE DR mstr mN
  refine Fun.okR F scAW (fun vs H Q E h => ?_) (fun cdv A outer s H vs Q Q2 E hr h hq => ?_)
  · obtain ⟨p, r, es, ns, rfl, _⟩ := h
    rfl
  · obtain ⟨p, r, es, ns, rfl, hp, hE, hr1, hN, hel, hnl, q⟩ := h
    refine ⟨_, pss_cons (ps_set (i := 2) scAW.nd rfl (Or.inl rfl) (pe_lst (pa_cons (pe_bm PySem.F.plainAttrs_str PySem.F.slot_str_join PySem.F.type_str_join mt_join pe_str (pa_cons (pe_comp (Nc := ["entry"]) (mp := [none]) rfl (CompOk.of (by rfl)) (pi_tup (pv 0))
      (fun cl C s H fp => ⟨pg_name (i := 0) nd_entry rfl (Or.inl rfl), pts_nil, pe_call GE hr (by rfl) DE.at_ DE.fn.kp DE.bn .nil pass0 (pa_cons (pv 0) pa_nil)⟩)) pa_nil)) pa_nil)))
      (pss_cons (ps_expr (pe_bm PySem.F.plainAttrs_list PySem.F.slot_list_extend PySem.F.type_list_extend mt_extend (pv 2) (pa_cons (pe_comp (Nc := ["number", "readings"]) (mp := [none, none]) rfl (CompOk.of (by rfl)) (pi_tup (pv 1))
      (fun cl C s H fp => ⟨pg_tupK (K := K) (n := 2) rfl rfl (pgs_cons (pg_name (i := 0) nd_nr rfl (Or.inl rfl)) (pgs_cons (pg_name (i := 1) nd_nr rfl (Or.inl rfl)) pgs_nil)), pts_nil, pe_call GN hr (by rfl) DN.at_ DN.fn.kp DN.bn .nil pass0 (pa_cons (pv 0) (pa_cons (pv 1) pa_nil))⟩)) pa_nil)))
      (pss_one (ps_ret (pe_bm PySem.F.plainAttrs_str PySem.F.slot_str_join PySem.F.type_str_join mt_join pe_str (pa_cons (pv 2) pa_nil))))), ?_⟩
    refine ⟨rfl, _, rfl, p, rfl, ⟨_, hp⟩, comp_map (as := es) (v := id) (fun e => .str (entS e)) (by rw [List.map_id]; exact src_tup hp) (few (by omega)) (fun e he k hk => ⟨_, rfl, e, rfl, hE e he, hk⟩) (fun D hD => ?_)⟩
    have S1 := same_upd (o := .lst (es.map fun e => V.str (entS e))) hD
    have h2 : (Str.ofString " | ").length = 3 := by decide +kernel
    have h3 := sum_le (ws := es.map entS) (b := 12) fun z hz => by
      obtain ⟨e, he, rfl⟩ := List.mem_map.mp hz
      exact ent_len (hE e he)
    rw [List.length_map] at h3
    refine ⟨_, D, es.map entS, rfl, rfl, .inl (SqL.of (by rw [upd_same, List.map_map]; rfl)), by rw [h2, List.length_map]; omega, ?_⟩
    rw [tjoin, ← headS_eq]
    refine ⟨few (by show 1 ≤ _; omega), fun l hl => ?_⟩
    have S2 := same_upd (o := .lst [V.str (headS es)]) hl
    have S12 := S1.trans S2
    have hl2 : upd (upd H D (.lst (es.map fun e => V.str (entS e)))) l (.lst [V.str (headS es)]) l = some (.lst [V.str (headS es)]) := upd_same
    have hln : H l = none := S1.free hl
    generalize hH2 : upd (upd H D (.lst (es.map fun e => V.str (entS e)))) l (.lst [V.str (headS es)]) = H2 at S12 hl2
    have hr2 := sameT S12 hr1
    have hN2 : ∀ y ∈ ns, NoteAt H2 y.1 y.2 := fun y hy => (hN y hy).mono S12
    obtain ⟨qa, hqa⟩ : ∃ qa : Addr × Note → Addr, ∀ y ∈ ns, H2 y.1 = some (.tup [natV y.2.1, .ref (qa y)]) ∧ H2 (qa y) = some (.tup (y.2.2.map fun z => V.ref z.1)) := by
      classical
      refine ⟨fun y => if h : ∃ q, H2 y.1 = some (.tup [natV y.2.1, .ref q]) ∧ H2 q = some (.tup (y.2.2.map fun z => V.ref z.1)) then h.choose else y.1, fun y hy => ?_⟩
      have h := (hN2 y hy).2.2.2
      dsimp only
      rw [dif_pos h]
      exact h.choose_spec
    refine ⟨_, rfl, .inl ⟨rfl, _, SqL.of hl2⟩, _, rfl, r, rfl, ⟨_, hr2⟩, comp_pair (K := K) (as := ns) (v := fun y => V.ref y.1) (x := fun y => natV y.2.1) (y := fun y => V.ref (qa y)) (fun y => .str (noteS y.2)) (src_tup hr2) (few (by omega)) (fun y hy => ⟨y.1, rfl, SqT.of (hqa y hy).1⟩) (fun y hy k hk => ?_) (fun D3 hD3 => ?_)⟩
    · exact ⟨_, rfl, _, rfl, y.2.1, qa y, y.2.2, rfl, SqT.of (hqa y hy).2, (hN2 y hy).2.2.1, (hN2 y hy).2.1, (hN2 y hy).1, hk⟩
    · have S3 := same_upd (o := .lst (ns.map fun y => V.str (noteS y.2))) hD3
      have hl3 := S3 _ _ hl2
      refine ⟨l, D3, _, _, rfl, rfl, hl3, upd_same, few (by rw [List.length_map]; show 1 + _ ≤ _; omega), ?_⟩
      refine ⟨rfl, _, rfl, _, l, headS es :: ns.map (fun y => noteS y.2), rfl, rfl, .inl (SqL.of (by rw [upd_same, List.map_cons, List.map_map]; rfl)), ?_, ?_⟩
      · have hh := head_len hE
        have h5 : (Str.ofString "\n").length = 1 := by decide +kernel
        have h6 := sum_le (ws := ns.map fun y => noteS y.2) (b := 3500) fun z hz => by
          obtain ⟨y, hy, rfl⟩ := List.mem_map.mp hz
          exact note_len (hN y hy)
        rw [List.length_map] at h6
        rw [h5, List.map_cons, List.sum_cons, List.length_cons, List.length_map]
        omega
      · rw [tjoin]
        exact hq _ _ (Rst.same (same_to (S12.trans S3) hln) q)
/-! ### the law's readings -/
theorem nd_rce : (["row", "column", "entry"] : List Str).Nodup := by decide +kernel
def spRd : Sp := fun vs H Q _ => ∃ (p : Addr) (es : List V), vs = [.ref p] ∧ H p = some (.tup es) ∧ (∀ e ∈ es, Ent e) ∧ 1 ≤ es.length ∧ es.length ≤ 30 ∧
  ∀ (H' : Hp) (r : Addr) (xs : List (Addr × Rdg)), Same H H' → H' r = some (.tup (xs.map fun y => V.ref y.1)) → (∀ y ∈ xs, RdgAt H' y.1 y.2) → xs.length ≤ 30 → Q (.ref r) H'
theorem scRd : FnScope ["column", "entries", "entry", "found"] ["column"] (defScope sRd) := ⟨rfl, rfl, rfl, by decide +kernel, rfl, by decide +kernel, by decide +kernel⟩
theorem ok_rd {f : Addr} {fd : FuncData} (F : Fun K "_law_readings_of" "_law_readings_of" sRd f fd) (mlen : mg "len" = none) (mrange : mg "range" = none) (mtup : mg "tuple" = none) : FnOk P w K mg base CX0 1 f fd ["column"] spRd := by
  refine F.ok scRd (fun vs H Q E h => ?_) (fun cdv A outer s H vs Q E hr h => ?_)
  · obtain ⟨p, es, rfl, _⟩ := h
    rfl
  · obtain ⟨p, es, rfl, hp, hE, h1, h30, q⟩ := h
    refine ⟨_, pss_cons (ps_set (i := 1) scRd.nd rfl (Or.inl rfl) (pe_lst pa_nil))
      (pss_cons (ps_for PassesOwn.never rfl (pi_tup (pv 0)) (pg_name (i := 2) scRd.nd rfl (Or.inr rfl))
        (pss_one (ps_if (pw_and (pt_cmpR op_ne (pv 2) (pe_ix ix_tup (pv 0) pe_int (fun _ _ => rfl)) (nomark _)) (pw_and1 (pt_cmpR op_notIn_seq (pv 2) (pv 1) (by with_unfolding_all rfl)))).pt (pss_one (ps_expr (pe_bm PySem.F.plainAttrs_list PySem.F.slot_list_append PySem.F.type_list_append mt_append (pv 1) (pa_cons (pv 2) pa_nil)))) pss_nil)))
      (pss_cons (ps_set (i := 3) scRd.nd rfl (Or.inl rfl) (pe_lst pa_nil))
      (pss_cons (ps_for PassesOwn.never rfl (pi_list (pv 1)) (pg_name (i := 2) scRd.nd rfl (Or.inr rfl))
        (pss_one (ps_expr (pe_bm PySem.F.plainAttrs_list PySem.F.slot_list_append PySem.F.type_list_append mt_append (pv 3) (pa_cons (pe_tup (pa_cons (pv 2) (pa_cons (pe_callTy call_tuple_of (by rfl) mtup boot_tuple (pa_cons (pe_comp (Nc := ["row", "column", "entry"]) (mp := [none, some 0, some 2]) rfl (CompOk.of (by rfl)) (pi_range1 (by rfl) mrange (pa_cons (pe_callB call_len_seq (by rfl) mlen PySem.boot_len (pa_cons (pv 0) pa_nil)) pa_nil))
          (fun cl C s H fp => ⟨pg_name (i := 0) nd_rce rfl (Or.inl rfl), pts_one (pt_cmpR op_eq (pe_ix (ix_tupK (K := K) rfl) (pv 1) (pv 0) (fun _ _ => rfl)) (pv 2) (nomark _)), pv 0⟩)) pa_nil)) pa_nil))) pa_nil)))))
      (pss_one (ps_ret (pe_callTy call_tuple_of (by rfl) mtup boot_tuple (pa_cons (pv 3) pa_nil))))))), ?_⟩
    obtain ⟨e0, et, rfl⟩ : ∃ e0 et, es = e0 :: et := by
      cases es with
      | nil => simp at h1
      | cons e0 et => exact ⟨e0, et, rfl⟩
    refine ⟨Nat.zero_le _, fun l hl => ?_⟩
    have S0 := same_upd (o := .lst []) hl
    have hp0 := S0 _ _ hp
    refine ⟨_, rfl, p, rfl, ⟨_, SqT.of hp0⟩, for_tup (K := K) (a := p) (xs := e0 :: et) (fun i σ H2 => ∃ (us : List V) (v2 v3 : Option V), σ = [some (.ref p), some (.ref l), v2, v3] ∧ H2 l = some (.lst us) ∧ Same H H2 ∧ us.length ≤ i ∧ ∀ e ∈ us, Ent e)
      ⟨[], none, none, rfl, upd_same, S0, Nat.le_refl _, fun _ z => nomatch z⟩ (fun i σ H2 _ ⟨_, _, _, _, _, S, _⟩ => SqT.of (S _ _ hp)) ?_ ?_⟩
    · rintro i x σ H2 hi ⟨us, v2, v3, rfl, h2, S2, hul, hU⟩
      have hx : Ent x := hE x (List.mem_of_getElem? hi)
      have hi' : i < (e0 :: et).length := (List.getElem?_eq_some_iff.mp hi).1
      refine ⟨_, rfl, _, rfl, p, _, _, _, rfl, rfl, SqT.of (S2 _ _ hp), atI_nat (j := 0) rfl, ent_scal hx (hE e0 (List.mem_cons_self ..)), _, rfl, ?_⟩
      refine ite2 (fun _ => ?_) (fun _ => iteF ⟨us, _, _, rfl, h2, S2, by omega, hU⟩)
      refine ⟨_, rfl, _, rfl, l, _, rfl, .inl (SqL.of h2), ent_flat hx, List.all_eq_true.mpr (fun e he => ent_flat (hU e he)), _, rfl, ?_⟩
      refine ite2 (fun _ => ?_) (fun _ => ⟨us, _, _, rfl, h2, S2, by omega, hU⟩)
      refine ⟨_, rfl, .inl ⟨rfl, _, SqL.of h2⟩, _, rfl, l, _, _, rfl, rfl, h2, fewer (by omega), us ++ [x], _, _, rfl, upd_same, same_to S2 hl, by rw [List.length_append]; show _ + 1 ≤ _; omega, fun e he => ?_⟩
      rcases List.mem_append.mp he with he | he
      · exact hU e he
      · rw [List.mem_singleton.mp he]; exact hx
    · rintro σ H2 ⟨us, v2, v3, rfl, h2, S2, hul, hU⟩
      refine ⟨Nat.zero_le _, fun m hm => ?_⟩
      have S3 := same_upd (o := .lst []) hm
      have hu3 := S3 _ _ h2
      have hmn := S2.free hm
      have hu30 : us.length ≤ 30 := by omega
      have hml : l ≠ m := ne_of_none h2 hm
      refine ⟨_, rfl, l, rfl, ⟨_, SqL.of hu3⟩, for_list (K := K) (a := l) (xs := us) (fun i σ H4 => ∃ (xs : List (Addr × Rdg)) (v2 : Option V), σ = [some (.ref p), some (.ref l), v2, some (.ref m)] ∧ H4 m = some (.lst (xs.map fun y => V.ref y.1)) ∧ H4 l = some (.lst us) ∧ Same H H4 ∧ xs.length = i ∧ ∀ y ∈ xs, RdgAt H4 y.1 y.2)
        ⟨[], v2, rfl, upd_same, hu3, S2.trans S3, rfl, fun _ z => nomatch z⟩ (fun i σ H4 _ ⟨_, _, _, _, h, _⟩ => SqL.of h) ?_ ?_⟩
      · rintro i x σ H4 hi ⟨xs, v2, rfl, h4, hl4, S4, hxl, hX⟩
        have hx : Ent x := hU x (List.mem_of_getElem? hi)
        have hi' : i < us.length := (List.getElem?_eq_some_iff.mp hi).1
        have hp4 := S4 _ _ hp
        refine ⟨_, rfl, .inl ⟨rfl, _, SqL.of h4⟩, _, rfl, _, rfl, p, _, rfl, .inr (SqT.of hp4), _, rfl, by omega, by omega, ?_⟩
        rw [Int.toNat_natCast]
        refine comp_pure (as := List.range (e0 :: et).length) (v := fun k => .int (0 + ((k : Nat) : Int))) (fun k => decide ((e0 :: et).getD k .non = x)) (fun k => .int (0 + ((k : Nat) : Int))) (src_range 0 _ H4) (by rw [List.length_range]; exact few (by omega)) (fun k hk kc hkc => ?_) (fun k hk _ kc hkc => ⟨_, rfl, hkc⟩) fun D hD => ?_
        · have hk' := List.mem_range.mp hk
          have ek : (0 : Int) + ((k : Nat) : Int) = ((k : Nat) : Int) := by omega
          rw [ek]
          have e1 : atI (e0 :: et) ((k : Nat) : Int) = some ((e0 :: et).getD k .non) := atI_nat (by rw [List.getD_eq_getElem?_getD, List.getElem?_eq_getElem hk']; rfl)
          refine ⟨_, rfl, _, rfl, p, _, _, _, rfl, rfl, SqT.of hp4, e1, _, rfl, ent_scal (hE _ ?_) hx, _, rfl, hkc⟩
          rw [List.getD_eq_getElem?_getD, List.getElem?_eq_getElem hk']
          exact List.getElem_mem hk'
        · obtain ⟨rows, hrows⟩ : ∃ rows : List Nat, rows = (List.range (e0 :: et).length).filter (fun k => decide ((e0 :: et).getD k .non = x)) := ⟨_, rfl⟩
          have em : ((List.range (e0 :: et).length).filter (fun k => decide ((e0 :: et).getD k .non = x))).map (fun k => V.int (0 + ((k : Nat) : Int))) = rows.map natV := by
            rw [← hrows]
            refine List.map_congr_left fun k _ => ?_
            show V.int (0 + ((k : Nat) : Int)) = V.int ((k : Nat) : Int)
            rw [Int.zero_add]
          have hok : RdgOk (x, rows) := by
            refine ⟨hx, ?_, fun n hn => ?_⟩
            · show rows.length ≤ 30
              rw [hrows]
              exact Nat.le_trans (List.length_filter_le _ _) (by rw [List.length_range]; exact h30)
            · have hn : n ∈ rows := hn
              rw [hrows] at hn
              have := List.mem_range.mp (List.mem_filter.mp hn).1
              omega
          rw [em]
          have S5 := same_upd (o := .lst (rows.map natV)) hD
          refine ⟨D, _, rfl, .inl ⟨SqL.of upd_same, fun t6 ht6 => ?_⟩⟩
          have S6 := same_upd (o := .tup (rows.map natV)) ht6
          refine ⟨few (by show 2 ≤ _; omega), fun t7 ht7 => ?_⟩
          have S7 := same_upd (o := .tup [x, .ref t6]) ht7
          have S57 := (S5.trans S6).trans S7
          have h7 : upd (upd (upd H4 D (.lst (rows.map natV))) t6 (.tup (rows.map natV))) t7 (.tup [x, .ref t6]) t7 = some (.tup [x, .ref t6]) := upd_same
          have h76 := S7 _ _ (upd_same (H := upd H4 D (.lst (rows.map natV))) (a := t6) (o := .tup (rows.map natV)))
          generalize upd (upd (upd H4 D (.lst (rows.map natV))) t6 (.tup (rows.map natV))) t7 (.tup [x, .ref t6]) = H7 at S57 h7 h76
          have hm7 := S57 _ _ h4
          have hl7 := S57 _ _ hl4
          have keep : ∀ {a : Addr} {ys zs : List V}, H7 a = some (.tup ys) → upd H7 m (.lst zs) a = some (.tup ys) := fun {a ys zs} h => by
            rw [upd_ne (ne_of h hm7 (by intro z; cases z))]; exact h
          have kr : ∀ {a : Addr} {y : Rdg} {zs : List V}, RdgAt H7 a y → RdgAt (upd H7 m (.lst zs)) a y := fun {a y zs} h => by
            obtain ⟨ho, r, h1, h2⟩ := h
            exact ⟨ho, r, keep h1, keep h2⟩
          refine ⟨m, _, _, rfl, rfl, hm7, (by rw [List.length_map, hxl]; exact fewer (by omega)), xs ++ [(t7, (x, rows))], _, rfl, by rw [upd_same, List.map_append]; rfl, by rw [upd_ne hml]; exact hl7, same_to (S4.trans S57) hmn, by rw [List.length_append, hxl]; rfl, fun y hy => ?_⟩
          rcases List.mem_append.mp hy with hy | hy
          · exact kr ((hX y hy).mono S57)
          · rw [List.mem_singleton.mp hy]
            exact kr ⟨hok, t6, h7, h76⟩
      · rintro σ H4 ⟨xs, v2, rfl, h4, hl4, S4, hxl, hX⟩
        refine ⟨_, rfl, m, _, rfl, .inl ⟨SqL.of h4, fun r hr' => ?_⟩⟩
        have S5 := same_upd (o := .tup (xs.map fun y => V.ref y.1)) hr'
        exact q _ r xs (S4.trans S5) upd_same (fun y hy => (hX y hy).mono S5) (by omega)
/-! ### the law's notes -/
def spNts (K : PySem.W.Frag) : Sp := fun vs H Q _ => ∃ (p : Addr) (cs : List (Addr × List V)) (m : Nat), vs = [.ref p] ∧ SqT K H p (cs.map fun x => V.ref x.1) ∧ ColsAt H cs m ∧ 1 ≤ m ∧ m ≤ 30 ∧ cs.length ≤ 1200 ∧
  ∀ (H' : Hp) (r : Addr) (ns : List (Addr × Note)), Same H H' → H' r = some (.tup (ns.map fun y => V.ref y.1)) → (∀ y ∈ ns, NoteAt H' y.1 y.2) → ns.length ≤ 1200 → Q (.ref r) H'
theorem scNts : FnScope ["columns", "found", "number", "readings"] ["columns"] (defScope sNts) := ⟨rfl, rfl, rfl, by decide +kernel, rfl, by decide +kernel, by decide +kernel⟩
theorem eqs_empty {K : PySem.W.Frag} {H : Hp} {p r : Addr} {as : List V} (h1 : H p = some (.tup as)) (h2 : H r = some (.tup [])) : EqS K H 0 (.ref p) (.ref r) (decide (as = [])) := by
  refine ⟨p, r, _, _, fun _ => true, rfl, rfl, .inr ⟨SqT.of h1, SqT.of h2⟩, fun i x y _ hy => by simp at hy, ?_⟩
  cases as with
  | nil => rfl
  | cons a t => rfl
theorem ok_nts {f gR : Addr} {fd dR : FuncData} (F : Fun K "_law_notes_of" "_law_notes_of" sNts f fd) (DR : Dfn K mg "_law_readings_of" sRd gR dR ["column"]) (mlen : mg "len" = none) (mrange : mg "range" = none) (mtup : mg "tuple" = none) : FnOk P w K mg base CX0 2 f fd ["columns"] (spNts K) := by
  have GR : FnOk P w K mg base CX0 1 gR dR ["column"] spRd := ok_rd DR.fn mlen mrange mtup
  refine F.ok scNts (fun vs H Q E h => ?_) (fun cdv A outer s H vs Q E hr h => ?_)
  · obtain ⟨p, cs, m, rfl, _⟩ := h
    rfl
  · obtain ⟨p, cs, m, rfl, hp, hC, m1, m30, hcl, q⟩ := h
    refine ⟨_, pss_cons (ps_set (i := 1) scNts.nd rfl (Or.inl rfl) (pe_lst pa_nil))
      (pss_cons (ps_for PassesOwn.never rfl (pi_range1 (by rfl) mrange (pa_cons (pe_callB call_len_seq (by rfl) mlen PySem.boot_len (pa_cons (pv 0) pa_nil)) pa_nil)) (pg_name (i := 2) scNts.nd rfl (Or.inl rfl))
        (pss_cons (ps_set (i := 3) scNts.nd rfl (Or.inl rfl) (pe_call GR hr (by rfl) DR.at_ DR.fn.kp DR.bn .nil pass0 (pa_cons (pe_ix ix_tup (pv 0) (pv 2) (fun _ _ => rfl)) pa_nil)))
        (pss_one (ps_if (pt_cmpR (op_neS hr.units) (pv 3) (pe_tup pa_nil) (nomark _)) (pss_one (ps_expr (pe_bm PySem.F.plainAttrs_list PySem.F.slot_list_append PySem.F.type_list_append mt_append (pv 1) (pa_cons (pe_tup (pa_cons (pv 2) (pa_cons (pv 3) pa_nil))) pa_nil)))) pss_nil))))
      (pss_one (ps_ret (pe_callTy call_tuple_of (by rfl) mtup boot_tuple (pa_cons (pv 1) pa_nil))))), ?_⟩
    refine ⟨Nat.zero_le _, fun l hl => ?_⟩
    have S0 := same_upd (o := .lst []) hl
    refine ⟨_, rfl, p, _, rfl, .inr (sameT S0 hp), _, rfl, by omega, by rw [List.length_map]; omega, ?_⟩
    rw [Int.toNat_natCast, List.length_map]
    refine for_range (n := cs.length) (fun i σ H2 => ∃ (ns : List (Addr × Note)) (v2 v3 : Option V), σ = [some (.ref p), some (.ref l), v2, v3] ∧ H2 l = some (.lst (ns.map fun y => V.ref y.1)) ∧ Same H H2 ∧ ns.length ≤ i ∧ ∀ y ∈ ns, NoteAt H2 y.1 y.2)
      ⟨[], none, none, rfl, upd_same, S0, Nat.le_refl _, fun _ z => nomatch z⟩ ?_ ?_
    · rintro i σ H2 hi ⟨ns, v2, v3, rfl, h2, S2, hnl, hN⟩
      have ei : (0 : Int) + ((i : Nat) : Int) = ((i : Nat) : Int) := by omega
      rw [ei]
      have hm := List.getElem_mem hi
      obtain ⟨hc1, hc2, hc3⟩ := (hC.mono S2) cs[i] hm
      have ea : atI (cs.map fun x => V.ref x.1) ((i : Nat) : Int) = some (.ref cs[i].1) := atI_nat (by rw [List.getElem?_map, List.getElem?_eq_getElem hi]; rfl)
      refine ⟨_, rfl, _, rfl, p, _, _, _, rfl, rfl, sameT S2 hp, ea, cs[i].1, cs[i].2, rfl, hc1, hc3, by omega, by omega, fun H3 r xs S3 h3 hX hxl => ?_⟩
      refine ⟨_, rfl, Nat.zero_le _, fun t ht => ⟨0, _, by decide, eqs_empty ((same_upd ht) _ _ h3) upd_same, _, rfl, ?_⟩⟩
      have S4 := same_upd (o := .tup []) ht
      have S24 := S3.trans S4
      have h34 := S4 _ _ h3
      have hX4 : ∀ y ∈ xs, RdgAt (upd H3 t (.tup [])) y.1 y.2 := fun y hy => (hX y hy).mono S4
      generalize upd H3 t (.tup []) = H4 at S4 S24 h34 hX4
      have hl4 := S24 _ _ h2
      have hN4 : ∀ y ∈ ns, NoteAt H4 y.1 y.2 := fun y hy => (hN y hy).mono S24
      refine ite2 (fun _ => ?_) (fun _ => ⟨ns, _, _, rfl, hl4, S2.trans S24, by omega, hN4⟩)
      refine ⟨_, rfl, .inl ⟨rfl, _, SqL.of hl4⟩, _, rfl, _, rfl, few (by show 2 ≤ _; omega), fun t5 ht5 => ?_⟩
      have S5 := same_upd (o := .tup [.int ((i : Nat) : Int), .ref r]) ht5
      have h5 : upd H4 t5 (.tup [.int ((i : Nat) : Int), .ref r]) t5 = some (.tup [natV i, .ref r]) := upd_same
      have S25 := (S2.trans S24).trans S5
      have hl5 := S5 _ _ hl4
      have h35 := S5 _ _ h34
      have hN5 : NoteAt (upd H4 t5 (.tup [.int ((i : Nat) : Int), .ref r])) t5 (i, xs) := ⟨by show i < 10000; omega, hxl, fun y hy => (hX4 y hy).mono S5, r, h5, h35⟩
      have hO5 : ∀ y ∈ ns, NoteAt (upd H4 t5 (.tup [.int ((i : Nat) : Int), .ref r])) y.1 y.2 := fun y hy => (hN4 y hy).mono S5
      generalize upd H4 t5 (.tup [.int ((i : Nat) : Int), .ref r]) = H5 at S25 hl5 hN5 hO5
      have keep : ∀ {a : Addr} {ys zs : List V}, H5 a = some (.tup ys) → upd H5 l (.lst zs) a = some (.tup ys) := fun {a ys zs} h => by
        rw [upd_ne (ne_of h hl5 (by intro z; cases z))]; exact h
      have kn : ∀ {a : Addr} {y : Note} {zs : List V}, NoteAt H5 a y → NoteAt (upd H5 l (.lst zs)) a y := fun {a y zs} h => by
        obtain ⟨h1, h2, h3, q, h4, h5⟩ := h
        refine ⟨h1, h2, fun y hy => ?_, q, keep h4, keep h5⟩
        obtain ⟨ho, r, k1, k2⟩ := h3 y hy
        exact ⟨ho, r, keep k1, keep k2⟩
      refine ⟨l, _, _, rfl, rfl, hl5, (by rw [List.length_map]; exact fewer (by omega)), ns ++ [(t5, (i, xs))], _, _, rfl, by rw [upd_same, List.map_append]; rfl, same_to S25 hl, by rw [List.length_append]; show _ + 1 ≤ _; omega, fun y hy => ?_⟩
      rcases List.mem_append.mp hy with hy | hy
      · exact kn (hO5 y hy)
      · rw [List.mem_singleton.mp hy]; exact kn hN5
    · rintro σ H2 ⟨ns, v2, v3, rfl, h2, S2, hnl, hN⟩
      refine ⟨_, rfl, l, _, rfl, .inl ⟨SqL.of h2, fun r hr' => ?_⟩⟩
      have S5 := same_upd (o := .tup (ns.map fun y => V.ref y.1)) hr'
      exact q _ r ns (S2.trans S5) upd_same (fun y hy => (hN y hy).mono S5) (by omega)
/-! ### the law's text -/
def spLE : Sp := fun vs H Q _ => ∃ v, vs = [v] ∧ Ent v ∧ Q (.str (entS v)) H
theorem scLE : FnScope ["entry"] ["entry"] (defScope sLE) := ⟨rfl, rfl, rfl, by decide +kernel, rfl, by decide +kernel, by decide +kernel⟩
theorem ok_le {f : Addr} {fd : FuncData} (F : Fun K "_law_entry" "_law_entry" sLE f fd) : FnOk P w K mg base CX0 1 f fd ["entry"] spLE := by
  refine Fun.okR F scLE (fun vs H Q E h => ?_) (fun cdv A outer s H vs Q Q2 E hr h hq => ?_)
  · obtain ⟨v, rfl, _⟩ := h
    rfl
  · obtain ⟨v, rfl, hv, q⟩ := h
    refine ⟨_, pss_cons (ps_if (pt_cmpR op_isN (pv 0) pe_non (nomark _)) (pss_one (ps_ret pe_str)) pss_nil) (pss_one (ps_ret (pv 0))), ?_⟩
    have go : Q2 (.str (entS v)) H := hq _ _ (Rst.same (Same.refl H) q)
    refine ⟨_, rfl, rfl, _, rfl, ?_⟩
    rcases hv with rfl | ⟨z, _, rfl⟩
    · exact iteY rfl go
    · exact iteK (fun z => nomatch z) ⟨_, rfl, go⟩
def spLW (K : PySem.W.Frag) : Sp := fun vs H Q _ => ∃ (p r : Addr) (es : List V) (ns : List (Addr × Note)), vs = [.ref p, .ref r] ∧ SqT K H p es ∧ (∀ e ∈ es, Ent e) ∧ SqT K H r (ns.map fun y => V.ref y.1) ∧ (∀ y ∈ ns, NoteAt H y.1 y.2) ∧ es.length ≤ 1200 ∧ ns.length ≤ 1200 ∧ Q (.str (appS es ns)) H
theorem scLW : FnScope ["entries", "notes", "line", "k", "number", "readings", "parts", "entry", "rows"] ["entries", "notes"] (defScope sLW) := ⟨rfl, rfl, rfl, by decide +kernel, rfl, by decide +kernel, by decide +kernel⟩
theorem at01 (i : Nat) : atI [V.str (Str.ofString " | "), .str (Str.ofString "")] (if decide (V.int ((i : Nat) : Int) = V.int 0) = true then 1 else 0) = some (.str (if i = 0 then Str.ofString "" else Str.ofString " | ")) := by
  by_cases h : i = 0
  · subst h
    rfl
  · rw [if_neg h, if_neg (by intro z; have := of_decide_eq_true z; injection this with e; omega)]
    rfl
theorem take_snoc {α : Type} {xs : List α} {i : Nat} {x : α} (h : xs[i]? = some x) : xs.take (i + 1) = xs.take i ++ [x] := by
  have hi := (List.getElem?_eq_some_iff.mp h).1
  rw [List.take_succ_eq_append_getElem hi]
  have : xs[i] = x := by
    have := List.getElem?_eq_getElem hi
    rw [h] at this
    exact (Option.some.inj this).symm
  rw [this]
theorem head_turn {es : List V} {i : Nat} {x : V} (h : es[i]? = some x) : headS (es.take (i + 1)) = headS (es.take i) ++ (if i = 0 then Str.ofString "" else Str.ofString " | ") ++ entS x := by
  unfold headS
  rw [take_snoc h, List.map_append]
  by_cases h0 : i = 0
  · subst h0
    rw [if_pos rfl, List.take_zero]
    show entS x = Str.ofString "" ++ Str.ofString "" ++ entS x
    rw [nil_app, nil_app]
  · rw [if_neg h0]
    refine join_snoc _ _ fun e => ?_
    have hi := (List.getElem?_eq_some_iff.mp h).1
    have := congrArg List.length e
    rw [List.length_map, List.length_take, List.length_nil] at this
    omega
theorem app_turn {es : List V} {ns : List (Addr × Note)} {i : Nat} {x : Addr × Note} (h : ns[i]? = some x) : appS es (ns.take (i + 1)) = appS es (ns.take i) ++ Str.ofString "\n" ++ noteS x.2 := by
  have e : appS es (ns.take (i + 1)) = Str.join (Str.ofString "\n") ((headS es :: (ns.take i).map fun y => noteS y.2) ++ [noteS x.2]) := by
    unfold appS
    rw [take_snoc h, List.map_append]
    rfl
  rw [e, join_snoc (Str.ofString "\n") (noteS x.2) (List.cons_ne_nil _ _)]
  rfl
theorem app_len' {H : Hp} {es : List V} {ns : List (Addr × Note)} (hE : ∀ e ∈ es, Ent e) (hN : ∀ y ∈ ns, NoteAt H y.1 y.2) (h1 : es.length ≤ 1200) (h2 : ns.length ≤ 1200) : (appS es ns).length ≤ 6000000 := by
  have hh := head_len hE
  have hj := join_len (Str.ofString "\n") (headS es :: ns.map fun y => noteS y.2)
  have h5 : (Str.ofString "\n").length = 1 := by decide +kernel
  have h6 := sum_le (ws := ns.map fun y => noteS y.2) (b := 3500) fun z hz => by
    obtain ⟨y, hy, rfl⟩ := List.mem_map.mp hz
    exact note_len (hN y hy)
  rw [List.length_map] at h6
  rw [h5, List.map_cons, List.sum_cons, List.length_cons, List.length_map] at hj
  unfold appS
  omega
theorem few2 {n : Nat} (h : n ≤ 16000000) : n ≤ sizeLine := by rw [szl]; omega
theorem ok_lw {f gE : Addr} {fd dE : FuncData} (F : Fun K "_law_written" "_law_written" sLW f fd) (DE : Dfn K mg "_law_entry" sLE gE dE ["entry"]) (mlen : mg "len" = none) (mrange : mg "range" = none) (mstr : mg "str" = none) (mint : mg "int" = none) : FnOk P w K mg base CX0 2 f fd ["entries", "notes"] (spLW K) := by
  have GE : FnOk P w K mg base CX0 1 gE dE ["entry"] spLE := ok_le DE.fn
  refine Fun.okR F scLW (fun vs H Q E h => ?_) (fun cdv A outer s H vs Q Q2 E hr h hq => ?_)
  · obtain ⟨p, r, es, ns, rfl, _⟩ := h
    rfl
  · obtain ⟨p, r, es, ns, rfl, hp, hE, hr1, hN, hel, hnl, q⟩ := h
    refine ⟨_, pss_cons (ps_set (i := 2) scLW.nd rfl (Or.inl rfl) pe_str)
      (pss_cons (ps_for PassesOwn.never rfl (pi_range1 (by rfl) mrange (pa_cons (pe_callB call_len_seq (by rfl) mlen PySem.boot_len (pa_cons (pv 0) pa_nil)) pa_nil)) (pg_name (i := 3) scLW.nd rfl (Or.inl rfl))
        (pss_one (ps_set (i := 2) scLW.nd rfl (Or.inl rfl) (pe_op op_add_str (pe_op op_add_str (pv 2) (pe_ix ix_list (pe_lst (pa_cons pe_str (pa_cons pe_str pa_nil))) (pe_callTy call_int1 (by rfl) mint boot_int (pa_cons (pe_cmpR op_eq (pv 3) pe_int (nomark _)) pa_nil)) (fun _ _ => rfl))) (pe_call GE hr (by rfl) DE.at_ DE.fn.kp DE.bn .nil pass0 (pa_cons (pe_ix ix_tup (pv 0) (pv 3) (fun _ _ => rfl)) pa_nil))))))
      (pss_cons (ps_for PassesOwn.never rfl (pi_tup (pv 1)) (pg_tup (n := 2) rfl (pgs_cons (pg_name (i := 4) scLW.nd rfl (Or.inl rfl)) (pgs_cons (pg_name (i := 5) scLW.nd rfl (Or.inl rfl)) pgs_nil)))
        (pss_cons (ps_set (i := 6) scLW.nd rfl (Or.inl rfl) (pe_lst pa_nil))
        (pss_cons (ps_for PassesOwn.never rfl (pi_tup (pv 5)) (pg_tup (n := 2) rfl (pgs_cons (pg_name (i := 7) scLW.nd rfl (Or.inl rfl)) (pgs_cons (pg_name (i := 8) scLW.nd rfl (Or.inl rfl)) pgs_nil)))
          (pss_one (ps_expr (pe_bm PySem.F.plainAttrs_list PySem.F.slot_list_append PySem.F.type_list_append mt_append (pv 6) (pa_cons (pe_op op_add_str (pe_op op_add_str (pe_call GE hr (by rfl) DE.at_ DE.fn.kp DE.bn .nil pass0 (pa_cons (pv 7) pa_nil)) pe_str) (pe_bm PySem.F.plainAttrs_str PySem.F.slot_str_join PySem.F.type_str_join mt_join pe_str (pa_cons (pe_comp (Nc := ["row"]) (mp := [none]) rfl (CompOk.of (by rfl)) (pi_tup (pv 8))
            (fun cl C s H fp => ⟨pg_name (i := 0) nd_row rfl (Or.inl rfl), pts_nil, pe_callTy call_str_any (by rfl) mstr boot_str (pa_cons (pv 0) pa_nil)⟩)) pa_nil))) pa_nil)))))
        (pss_one (ps_set (i := 2) scLW.nd rfl (Or.inl rfl) (pe_op op_add_str (pe_op op_add_str (pe_op op_add_str (pe_op op_add_str (pv 2) pe_str) (pe_callTy call_str_any (by rfl) mstr boot_str (pa_cons (pv 4) pa_nil))) pe_str) (pe_bm PySem.F.plainAttrs_str PySem.F.slot_str_join PySem.F.type_str_join mt_join pe_str (pa_cons (pv 6) pa_nil))))))))
      (pss_one (ps_ret (pv 2))))), ?_⟩
    refine ⟨_, rfl, p, _, rfl, .inr hp, _, rfl, by omega, by omega, ?_⟩
    rw [Int.toNat_natCast]
    refine for_range (n := es.length) (fun i σ H2 => ∃ v3 : Option V, σ = [some (.ref p), some (.ref r), some (.str (headS (es.take i))), v3, none, none, none, none, none] ∧ Same H H2) ⟨none, rfl, Same.refl _⟩ ?_ ?_
    · rintro i σ H2 hi ⟨v3, rfl, S2⟩
      have ei : (0 : Int) + ((i : Nat) : Int) = ((i : Nat) : Int) := by omega
      rw [ei]
      have hx := List.getElem?_eq_getElem hi
      have ht := head_turn hx
      have hEx := hE _ (List.getElem_mem hi)
      have hhl := head_len (es := es.take i) fun e he => hE e (List.mem_of_mem_take he)
      rw [List.length_take] at hhl
      have hsep : (if i = 0 then Str.ofString "" else Str.ofString " | ").length ≤ 3 := by
        by_cases h : i = 0
        · rw [if_pos h]; decide +kernel
        · rw [if_neg h]; decide +kernel
      have hxl := ent_len hEx
      refine ⟨_, rfl, few (by show 2 ≤ _; omega), fun l hl => ?_⟩
      have S3 := same_upd (o := .lst [V.str (Str.ofString " | "), .str (Str.ofString "")]) hl
      refine ⟨_, rfl, rfl, .inr ⟨_, rfl, l, _, _, _, rfl, rfl, SqL.of upd_same, at01 i, _, _, rfl, rfl, few2 (by omega), _, rfl, _, rfl, p, _, _, _, rfl, rfl, sameT (S2.trans S3) hp, atI_nat hx, _, rfl, hEx, _, _, rfl, rfl, few2 (by rw [app_len]; omega), ?_⟩⟩
      refine ⟨some (.int ((i : Nat) : Int)), ?_, S2.trans S3⟩
      rw [ht]
      rfl
    · rintro σ H2 ⟨v3, rfl, S2⟩
      rw [List.take_length]
      have hr2 := sameT S2 hr1
      have e0 : headS es = appS es (ns.take 0) := rfl
      refine ⟨_, rfl, r, rfl, ⟨_, hr2⟩, for_tup (K := K) (a := r) (xs := ns.map fun y => V.ref y.1) (fun i σ H3 => ∃ v4 v5 v6 v7 v8 : Option V, σ = [some (.ref p), some (.ref r), some (.str (appS es (ns.take i))), v3, v4, v5, v6, v7, v8] ∧ Same H H3) ⟨none, none, none, none, none, by rw [← e0], S2⟩ (fun i σ H3 _ ⟨_, _, _, _, _, _, S⟩ => sameT S hr1) ?_ ?_⟩
      · rintro i y σ H3 hi ⟨v4, v5, v6, v7, v8, rfl, S3⟩
        rw [List.getElem?_map] at hi
        obtain ⟨x, hx, rfl⟩ := Option.map_eq_some_iff.mp hi
        have hxm := List.mem_of_getElem? hx
        obtain ⟨n1, n2, n3, qa, n4, n5⟩ := (hN x hxm).mono S3
        refine ⟨x.1, _, rfl, SqT.of n4, rfl, _, _, rfl, _, _, rfl, rfl, ?_⟩
        refine ⟨Nat.zero_le _, fun l hl => ?_⟩
        have S4 := same_upd (o := .lst []) hl
        have hln := S3.free hl
        refine ⟨_, rfl, qa, rfl, ⟨_, SqT.of (S4 _ _ n5)⟩, for_tup (K := K) (a := qa) (xs := x.2.2.map fun y => V.ref y.1) (fun j σ H5 => ∃ v7 v8 : Option V, σ = [some (.ref p), some (.ref r), some (.str (appS es (ns.take i))), v3, some (natV x.2.1), some (.ref qa), some (.ref l), v7, v8] ∧ Same H3 H5 ∧ H5 l = some (.lst ((x.2.2.take j).map fun y => V.str (rdgS y.2)))) ⟨v7, v8, rfl, S4, upd_same⟩ (fun j σ H5 _ ⟨_, _, _, S, _⟩ => SqT.of (S _ _ n5)) ?_ ?_⟩
        · rintro j y σ H5 hj ⟨v7, v8, rfl, S5, h5⟩
          rw [List.getElem?_map] at hj
          obtain ⟨z, hz, rfl⟩ := Option.map_eq_some_iff.mp hj
          have hzm := List.mem_of_getElem? hz
          have hj' := (List.getElem?_eq_some_iff.mp hz).1
          obtain ⟨ho, ra, k1, k2⟩ := (n3 z hzm).mono S5
          have l12 := ent_len ho.1
          have l1 : (Str.ofString " ").length = 1 := by decide +kernel
          have hrl := rows_len ho
          refine ⟨z.1, _, rfl, SqT.of k1, rfl, _, _, rfl, _, _, rfl, rfl, ?_⟩
          refine ⟨_, rfl, .inl ⟨rfl, _, SqL.of h5⟩, _, rfl, _, rfl, ho.1, _, _, rfl, rfl, few (by rw [l1]; omega), rfl, _, rfl, ra, rfl, ⟨_, SqT.of k2⟩, comp_map (as := z.2.2) (v := natV) (fun n => .str (numS ((n : Nat) : Int))) (src_tup (SqT.of k2)) (few (by have := ho.2.1; omega)) (fun n hn k hk => ?_) (fun D hD => ?_)⟩
          · have := ho.2.2 n hn
            exact ⟨_, rfl, .inl ⟨((n : Nat) : Int), rfl, log_ok (by omega) (by omega), hk⟩⟩
          · refine ⟨_, D, z.2.2.map fun n => numS ((n : Nat) : Int), rfl, rfl, .inl (SqL.of (by rw [upd_same, List.map_map]; rfl)), ?_, ?_⟩
            · have h2 : (Str.ofString ",").length = 1 := by decide +kernel
              have h3 := sum_le (ws := z.2.2.map fun n => numS ((n : Nat) : Int)) (b := 2) fun u hu => by
                obtain ⟨n, hn, rfl⟩ := List.mem_map.mp hu
                exact numS_le (k := 1) (by have := ho.2.2 n hn; omega)
              have h4 := ho.2.1
              rw [List.length_map] at h3
              rw [h2, List.length_map]
              omega
            · rw [tjoin]
              have S6 := same_upd (o := .lst (z.2.2.map fun n => V.str (numS ((n : Nat) : Int)))) hD
              have h6 := S6 _ _ h5
              refine ⟨_, _, rfl, rfl, few (by rw [app_len, l1]; omega), l, _, _, rfl, rfl, h6, fewer (by rw [List.length_map, List.length_take]; omega), _, _, rfl, same_to (S5.trans S6) hl, ?_⟩
              rw [upd_same, take_snoc hz, List.map_append]
              rfl
        · rintro σ H5 ⟨v7, v8, rfl, S5, h5⟩
          rw [List.length_map, List.take_length] at h5
          have hA := app_len' (es := es) (ns := ns.take i) hE (fun y hy => hN y (List.mem_of_mem_take hy)) hel (by rw [List.length_take]; omega)
          have l1 : (Str.ofString "\n").length = 1 := by decide +kernel
          have l2 : (Str.ofString ": ").length = 2 := by decide +kernel
          have l4 := numS_le (m := x.2.1) (k := 3) (by omega)
          have hrl := rdgs_len (xs := x.2.2) (fun y hy => (n3 y hy).1) n2
          refine ⟨_, rfl, _, _, rfl, rfl, few2 (by omega), _, rfl, .inl ⟨((x.2.1 : Nat) : Int), rfl, log_ok (by omega) (by omega), _, _, rfl, rfl, few2 (by rw [app_len]; show _ + (numS ((x.2.1 : Nat) : Int)).length ≤ _; omega), _, _, rfl, rfl, few2 (by rw [app_len, app_len]; show _ + (numS ((x.2.1 : Nat) : Int)).length + _ ≤ _; omega), rfl, _, rfl, _, l, x.2.2.map (fun y => rdgS y.2), rfl, rfl, .inl (SqL.of (by rw [h5, List.map_map]; rfl)), ?_, ?_⟩⟩
          · have h2 : (Str.ofString "; ").length = 2 := by decide +kernel
            have h3 := sum_le (ws := x.2.2.map fun y => rdgS y.2) (b := 113) fun z hz => by
              obtain ⟨y, hy, rfl⟩ := List.mem_map.mp hz
              exact rdg_len (n3 y hy).1
            rw [List.length_map] at h3
            rw [h2, List.length_map]
            omega
          · rw [tjoin]
            refine ⟨_, _, rfl, rfl, few2 (by rw [app_len, app_len, app_len]; show _ + (numS ((x.2.1 : Nat) : Int)).length + _ + _ ≤ _; omega), some (natV x.2.1), some (.ref qa), some (.ref l), v7, v8, ?_, S3.trans S5⟩
            rw [app_turn hx]
            unfold noteS
            simp only [app_assoc]
            rfl
      · rintro σ H3 ⟨v4, v5, v6, v7, v8, rfl, S3⟩
        rw [List.length_map, List.take_length]
        exact ⟨_, rfl, hq _ _ (Rst.same S3 q)⟩
/-! ### the scene -/
theorem at5 (c k : Int) : ∃ n : Nat, atI [V.int 5, .int 30] (drawD c k 2) = some (.int ((n : Nat) : Int)) ∧ 1 ≤ n ∧ n ≤ 30 := by
  have h0 := draw_lo c k (m := 2) (by decide)
  have h1 := draw_hi c k (m := 2) (by decide)
  generalize drawD c k 2 = d at h0 h1
  obtain ⟨j, rfl⟩ : ∃ j : Nat, d = (j : Int) := ⟨d.toNat, by omega⟩
  have hj : j < 2 := by omega
  match j, hj with
  | 0, _ => exact ⟨5, rfl, by decide, by decide⟩
  | 1, _ => exact ⟨30, rfl, by decide, by decide⟩
theorem cut_ints (ns : List Int) (lo hi : Option Int) : ∃ ms : List Int, cutV (ns.map V.int) lo hi = ms.map V.int ∧ (∀ m ∈ ms, m ∈ ns) ∧ ms.length ≤ ns.length := by
  unfold cutV
  refine ⟨(ns.drop (HT.sIx (ns.map V.int).length 0 lo)).take (HT.sIx (ns.map V.int).length (ns.map V.int).length hi - HT.sIx (ns.map V.int).length 0 lo), by rw [← List.map_drop, ← List.map_take], fun m hm => List.mem_of_mem_drop (List.mem_of_mem_take hm), ?_⟩
  rw [List.length_take, List.length_drop]
  omega
theorem good_a : Good (Str.ofString "a") := ⟨by decide +kernel, by decide +kernel, fun c hc => by
  rw [show (Str.ofString "a").cps.toList = [97] from by decide +kernel] at hc
  rw [List.mem_singleton.mp hc]
  unfold Al
  omega⟩
theorem good_b : Good (Str.ofString "b") := ⟨by decide +kernel, by decide +kernel, fun c hc => by
  rw [show (Str.ofString "b").cps.toList = [98] from by decide +kernel] at hc
  rw [List.mem_singleton.mp hc]
  unfold Al
  omega⟩
def spScene (K : PySem.W.Frag) : Sp := fun vs H Q _ => ∃ (a : Addr) (ns : List Int), vs = [.ref a] ∧ SqL K H a (ns.map V.int) ∧ ns.length ≤ 63 ∧ (∀ m ∈ ns, Builtin.Int.intBits m ≤ 1048576) ∧
  ∀ (H' : Hp) (t p : Addr) (cs : List (Addr × List V)) (m : Nat), Same H H' → H' t = some (.tup [natV m, .ref p]) → H' p = some (.tup (cs.map fun x => V.ref x.1)) → ColsAt H' cs m → 1 ≤ m → m ≤ 30 → cs.length ≤ 1200 → Q (.ref t) H'
theorem scScene : FnScope ["script", "base", "pool", "many", "wide", "columns"] ["script"] (defScope sScene) := ⟨rfl, rfl, rfl, by decide +kernel, rfl, by decide +kernel, by decide +kernel⟩
theorem nd_cpm : (["cell", "pool", "many"] : List Str).Nodup := by decide +kernel
theorem ok_scene {f gC gD gW gP gCl : Addr} {fd dC dD dW dP dCl : FuncData} (F : Fun K "_law_scene" "_law_scene" sScene f fd)
    (DC : Dfn K mg "_law_cell_at" sCell gC dC ["script", "k"]) (DD : Dfn K mg "_law_draw" sDraw gD dD ["cell", "k", "many"]) (DW : Dfn K mg "_law_word_by" sWordBy gW dW ["cell", "k"]) (DP : Dfn K mg "_law_pool" sPool gP dP ["cell"]) (DCl : Dfn K mg "_law_column_by" sCol gCl dCl ["cell", "pool", "many"])
    (mlen : mg "len" = none) (mrange : mg "range" = none) (mtup : mg "tuple" = none) : FnOk P w K mg base CX0 4 f fd ["script"] (spScene K) := by
  have GC : FnOk P w K mg base CX0 3 gC dC ["script", "k"] (spCell K) := (ok_cell DC.fn mlen).mono (by decide)
  have GD : FnOk P w K mg base CX0 3 gD dD ["cell", "k", "many"] spDraw := (ok_draw DD.fn).mono (by decide)
  have GP : FnOk P w K mg base CX0 3 gP dP ["cell"] spPool := ok_pool DP.fn DD DW mrange mlen
  have GCl : FnOk P w K mg base CX0 3 gCl dCl ["cell", "pool", "many"] spCol := (ok_col DCl.fn DD mrange mlen mtup).mono (by decide)
  refine F.ok scScene (fun vs H Q E h => ?_) (fun cdv A outer s H vs Q E hr h => ?_)
  · obtain ⟨a, ns, rfl, _⟩ := h
    rfl
  · obtain ⟨a, ns, rfl, hS, hn, hb, q⟩ := h
    refine ⟨_, pss_cons (ps_set (i := 1) scScene.nd rfl (Or.inl rfl) (pe_call GC hr (by rfl) DC.at_ DC.fn.kp DC.bn .nil pass0 (pa_cons (pv 0) (pa_cons pe_int pa_nil))))
      (pss_cons (ps_set (i := 2) scScene.nd rfl (Or.inr rfl) (pe_call GP hr (by rfl) DP.at_ DP.fn.kp DP.bn .nil pass0 (pa_cons (pv 1) pa_nil)))
      (pss_cons (ps_set (i := 3) scScene.nd rfl (Or.inr rfl) (pe_op op_add pe_int (pe_call GD hr (by rfl) DD.at_ DD.fn.kp DD.bn .nil pass0 (pa_cons (pv 1) (pa_cons pe_int (pa_cons (pe_ix ix_list (pe_lst (pa_cons pe_int (pa_cons pe_int pa_nil))) (pe_call GD hr (by rfl) DD.at_ DD.fn.kp DD.bn .nil pass0 (pa_cons (pv 1) (pa_cons pe_int (pa_cons pe_int pa_nil)))) (fun _ _ => rfl)) pa_nil))))))
      (pss_cons (ps_set (i := 4) scScene.nd rfl (Or.inl rfl) pe_int)
      (pss_cons (ps_mid (ps_if (pt_cmpR op_eq (pe_call GD hr (by rfl) DD.at_ DD.fn.kp DD.bn .nil pass0 (pa_cons (pv 1) (pa_cons pe_int (pa_cons pe_int pa_nil)))) pe_int (nomark _))
        (pss_cons (ps_set (i := 2) scScene.nd rfl (Or.inr rfl) (pe_lst (pa_cons pe_str (pa_cons pe_str pa_nil)))) (pss_cons (ps_set (i := 3) scScene.nd rfl (Or.inr rfl) pe_int) (pss_one (ps_set (i := 4) scScene.nd rfl (Or.inl rfl) (pe_op op_add pe_int (pe_call GD hr (by rfl) DD.at_ DD.fn.kp DD.bn .nil pass0 (pa_cons (pv 1) (pa_cons pe_int (pa_cons pe_int pa_nil)))))))))
        pss_nil))
      (pss_cons (ps_setC (i := 5) (Nc := ["cell", "pool", "many"]) (mp := [none, some 2, some 3]) rfl scScene.nd rfl rfl (CompOk.of (by rfl)) (pi_list (pe_slice sl_lst (pv 0) (po_some pe_int) (po_some pe_int)))
        (fun cl C s H fp => ⟨pg_name (i := 0) nd_cpm rfl (Or.inl rfl), pts_nil, pe_call GCl hr (by rfl) DCl.at_ DCl.fn.kp DCl.bn .nil pass0 (pa_cons (pv 0) (pa_cons (pv 1) (pa_cons (pv 2) pa_nil)))⟩))
      (pss_one (ps_ret (pe_tup (pa_cons (pv 3) (pa_cons (pe_callTy call_tuple_of (by rfl) mtup boot_tuple (pa_cons (pe_slice sl_lst (pe_op op_rep (pv 5) (pv 4)) po_none (po_some pe_int)) pa_nil)) pa_nil)))))))))), ?_⟩
    have hc := bits_cell hb 0
    refine ⟨_, rfl, a, ns, 0, rfl, hS, by decide, ?_⟩
    refine ⟨_, rfl, _, rfl, hc, fun pl ws hpl hwl hwg => ?_⟩
    have S1 := same_upd (o := .lst (ws.map V.str)) hpl
    obtain ⟨n, en, n1, n2⟩ := at5 (cellD ns 0) 72
    have hpool : upd H pl (.lst (ws.map V.str)) pl = some (.lst (ws.map V.str)) := upd_same
    generalize upd H pl (.lst (ws.map V.str)) = H1 at S1 hpool
    refine ⟨_, rfl, few (by show 2 ≤ _; omega), fun l hl => ?_⟩
    have S2 := same_upd (o := .lst [V.int 5, .int 30]) hl
    refine ⟨_, rfl, _, _, _, rfl, hc, (by show (0 : Int) ≤ 72; decide), (by show (72 : Int) ≤ 100000; decide), (by show (0 : Int) < 2; decide), l, _, _, _, rfl, rfl, SqL.of upd_same, en, _, _, _, rfl, hc, (by show (0 : Int) ≤ 71; decide), (by show (71 : Int) ≤ 100000; decide), (by show (0 : Int) < ((n : Nat) : Int); omega), _, _, rfl, rfl, ?_⟩
    have d0 := draw_lo (cellD ns 0) 71 (m := ((n : Nat) : Int)) (by omega)
    have d1 := draw_hi (cellD ns 0) 71 (m := ((n : Nat) : Int)) (by omega)
    obtain ⟨m, hm⟩ : ∃ m : Nat, 1 + drawD (cellD ns 0) 71 ((n : Nat) : Int) = (m : Int) := ⟨(1 + drawD (cellD ns 0) 71 ((n : Nat) : Int)).toNat, by omega⟩
    have hpool2 := S2 _ _ hpool
    have S02 := S1.trans S2
    generalize upd H1 l (.lst [V.int 5, .int 30]) = H2 at S2 hpool2 S02
    refine ⟨fun σ' H' => ∃ (pl : Addr) (ws : List Str) (m k : Nat), σ' = [some (.ref a), some (.int (cellD ns 0)), some (.ref pl), some (.int ((m : Nat) : Int)), some (.int ((k : Nat) : Int)), none] ∧ Same H H' ∧ H' pl = some (.lst (ws.map V.str)) ∧ ws.length ≤ 10 ∧ (∀ z ∈ ws, Good z) ∧ 1 ≤ m ∧ m ≤ 30 ∧ k ≤ 50, ?_, ?_⟩
    · refine ⟨_, rfl, _, _, _, rfl, hc, (by show (0 : Int) ≤ 73; decide), (by show (73 : Int) ≤ 100000; decide), (by show (0 : Int) < 8; decide), rfl, _, rfl, ?_⟩
      refine ite2 (fun _ => ?_) (fun _ => ⟨pl, ws, m, 1, (by show [some (V.ref a), some (V.int (cellD ns 0)), some (V.ref pl), some (V.int (1 + drawD (cellD ns 0) 71 ((n : Nat) : Int))), some (V.int 1), none] = _; rw [hm]; rfl), S02, hpool2, by omega, hwg, by omega, by omega, by omega⟩)
      refine ⟨few (by show 2 ≤ _; omega), fun l3 hl3 => ?_⟩
      have e0 := draw_lo (cellD ns 0) 74 (m := 39) (by decide)
      have e1 := draw_hi (cellD ns 0) 74 (m := 39) (by decide)
      obtain ⟨k, hk⟩ : ∃ k : Nat, 2 + drawD (cellD ns 0) 74 39 = (k : Int) := ⟨(2 + drawD (cellD ns 0) 74 39).toNat, by omega⟩
      refine ⟨_, rfl, _, _, _, rfl, hc, (by show (0 : Int) ≤ 74; decide), (by show (74 : Int) ≤ 100000; decide), (by show (0 : Int) < 39; decide), _, _, rfl, rfl, ?_⟩
      refine ⟨l3, [Str.ofString "a", Str.ofString "b"], 2, k, (by show [some (V.ref a), some (V.int (cellD ns 0)), some (V.ref l3), some (V.int 2), some (V.int (2 + drawD (cellD ns 0) 74 39)), none] = _; rw [hk]; rfl), S02.trans (same_upd hl3), upd_same, by show 2 ≤ 10; omega, fun z hz => ?_, by omega, by omega, by omega⟩
      rcases List.mem_cons.mp hz with e | hz
      · rw [e]; exact good_a
      · rw [List.mem_singleton.mp hz]; exact good_b
    · clear hpool2 S02 S2 hm d0 d1 hwg hwl hpool S1 hpl
      rintro σ' H3 ⟨pl, ws, m, k, rfl, S3, hpool3, hwl, hwg, m1, m30, hk⟩
      obtain ⟨ms, ecut, hms, hml⟩ := cut_ints ns (some 1) (some 61)
      refine ⟨_, rfl, _, rfl, _, rfl, a, _, rfl, S3.seq hS, fun p4 hp4 => ?_⟩
      rw [ecut]
      have S4 := same_upd (o := .lst (ms.map V.int)) hp4
      have h4 : upd H3 p4 (.lst (ms.map V.int)) p4 = some (.lst (ms.map V.int)) := upd_same
      have hpool4 := S4 _ _ hpool3
      have S34 := S3.trans S4
      generalize upd H3 p4 (.lst (ms.map V.int)) = H4 at S34 h4 hpool4
      refine ⟨p4, rfl, ⟨_, SqL.of h4⟩, comp_grow (as := ms) (v := V.int) (fun i acc H' => ∃ cs : List (Addr × List V), acc = cs.map (fun x => V.ref x.1) ∧ cs.length = i ∧ Same H4 H' ∧ ColsAt H' cs m) (fun i acc H' _ ⟨_, _, _, S, _⟩ => src_list (SqL.of (S _ _ h4))) (few (by omega))
        ⟨[], rfl, rfl, Same.refl _, fun _ z => nomatch z⟩ (fun i acc H' ⟨cs, e, hl, _⟩ => by rw [e, List.length_map, hl]) ?_ ?_⟩
      · rintro i x acc H' hx ⟨cs, rfl, hcl, S, hC⟩ kc hkc
        refine ⟨_, rfl, _, rfl, _, rfl, x, pl, m, ws, rfl, hb x (hms x (List.mem_of_getElem? hx)), S _ _ hpool4, by omega, hwg, m1, by omega, fun p es hp hel hE => ?_⟩
        have S' := same_upd (o := .tup es) hp
        refine hkc _ _ ⟨cs ++ [(p, es)], by rw [List.map_append]; rfl, by rw [List.length_append, hcl]; rfl, S.trans S', fun y hy => ?_⟩
        rcases List.mem_append.mp hy with hy | hy
        · exact (hC.mono S') y hy
        · rw [List.mem_singleton.mp hy]
          exact ⟨upd_same, hel, hE⟩
      · rintro acc H5 ⟨cs, rfl, hcl, S5, hC5⟩ D hD
        have S6 := same_upd (o := .lst (cs.map fun x => V.ref x.1)) hD
        have hD6 : upd H5 D (.lst (cs.map fun x => V.ref x.1)) D = some (.lst (cs.map fun x => V.ref x.1)) := upd_same
        have hC6 := hC5.mono S6
        have S46 := (S34.trans S5).trans S6
        generalize upd H5 D (.lst (cs.map fun x => V.ref x.1)) = H6 at S46 hD6 hC6
        have hcs : cs.length ≤ 63 := by omega
        have hmul : cs.length * k ≤ 63 * 50 := Nat.mul_le_mul hcs hk
        refine ⟨_, rfl, _, rfl, _, rfl, D, ((k : Nat) : Int), _, rfl, rfl, hD6, by omega, by omega, few (by rw [List.length_map, Int.toNat_natCast]; omega), fun p7 hp7 => ?_⟩
        rw [Int.toNat_natCast]
        have em : (List.replicate k (cs.map fun x => V.ref x.1)).flatten = ((List.replicate k cs).flatten).map fun x => V.ref x.1 := by
          rw [List.map_flatten, List.map_replicate]
        rw [em]
        have S7 := same_upd (o := .lst (((List.replicate k cs).flatten).map fun x => V.ref x.1)) hp7
        have h7 : upd H6 p7 (.lst (((List.replicate k cs).flatten).map fun x => V.ref x.1)) p7 = some (.lst (((List.replicate k cs).flatten).map fun x => V.ref x.1)) := upd_same
        refine ⟨_, rfl, p7, _, rfl, SqL.of h7, fun p8 hp8 => ?_⟩
        rw [show (1200 : Int) = ((1200 : Nat) : Int) from rfl, cutTake]
        have S8 := same_upd (o := .lst ((((List.replicate k cs).flatten).take 1200).map fun x => V.ref x.1)) hp8
        refine ⟨p8, _, rfl, .inl ⟨SqL.of upd_same, fun p9 hp9 => ?_⟩⟩
        have S9 := same_upd (o := .tup ((((List.replicate k cs).flatten).take 1200).map fun x => V.ref x.1)) hp9
        refine ⟨few (by show 2 ≤ _; omega), fun t ht => ?_⟩
        have S10 := same_upd (o := .tup [natV m, .ref p9]) ht
        have S610 := ((S7.trans S8).trans S9).trans S10
        refine q _ t p9 (((List.replicate k cs).flatten).take 1200) m (S46.trans S610) upd_same (S10 _ _ upd_same) (fun x hx => ?_) m1 m30 (by rw [List.length_take]; omega)
        have hx := List.mem_of_mem_take hx
        obtain ⟨y, hy, hxy⟩ := List.mem_flatten.mp hx
        rw [List.eq_of_mem_replicate hy] at hxy
        exact (hC6.mono S610) x hxy
/-! ### the law -/
def spLaw (K : PySem.W.Frag) : Sp := fun vs H Q _ => ∃ (a : Addr) (ns : List Int), vs = [.ref a] ∧ SqL K H a (ns.map V.int) ∧ ns.length ≤ 63 ∧ (∀ m ∈ ns, Builtin.Int.intBits m ≤ 1048576) ∧ ∀ H', Q (.bl true) H'
theorem scLaw : FnScope ["script", "columns", "notes", "entries", "found"] ["script"] (defScope sLaw) := ⟨rfl, rfl, rfl, by decide +kernel, rfl, by decide +kernel, by decide +kernel⟩
theorem nd_column : (["column"] : List Str).Nodup := by decide +kernel
theorem app_none : appS [] [] = Str.ofString "" := by
  show Str.join (Str.ofString " | ") [] = _
  rfl
theorem ok_law {f gE gR gN gA gC gD gW gP gCl gRd gNt gLE gLW gSc : Addr} {fd dE dR dN dA dC dD dW dP dCl dRd dNt dLE dLW dSc : FuncData} (F : Fun K "law" "law" sLaw f fd)
    (DE : Dfn K mg "entry_written" sEW gE dE ["entry"]) (DR : Dfn K mg "reading_written" sRW gR dR ["entry", "rows"]) (DN : Dfn K mg "note_written" sNW gN dN ["number", "readings"]) (DA : Dfn K mg "apparatus_written" sAW gA dA ["entries", "notes"])
    (DC : Dfn K mg "_law_cell_at" sCell gC dC ["script", "k"]) (DD : Dfn K mg "_law_draw" sDraw gD dD ["cell", "k", "many"]) (DW : Dfn K mg "_law_word_by" sWordBy gW dW ["cell", "k"]) (DP : Dfn K mg "_law_pool" sPool gP dP ["cell"]) (DCl : Dfn K mg "_law_column_by" sCol gCl dCl ["cell", "pool", "many"])
    (DRd : Dfn K mg "_law_readings_of" sRd gRd dRd ["column"]) (DNt : Dfn K mg "_law_notes_of" sNts gNt dNt ["columns"]) (DLE : Dfn K mg "_law_entry" sLE gLE dLE ["entry"]) (DLW : Dfn K mg "_law_written" sLW gLW dLW ["entries", "notes"]) (DSc : Dfn K mg "_law_scene" sScene gSc dSc ["script"])
    (mlen : mg "len" = none) (mrange : mg "range" = none) (misi : mg "isinstance" = none) (mtup : mg "tuple" = none) (mstr : mg "str" = none) (mint : mg "int" = none) {tn : Tok} (mN : mg "NO_ENTRY" = some (.str (Str.ofString "-") tn)) :
    FnOk P w K mg base CX0 5 f fd ["script"] (spLaw K) := by
  have GA : FnOk P w K mg base CX0 4 gA dA ["entries", "notes"] (spAW K) := ok_aw DA.fn DE DR DN mstr mN
  have GSc : FnOk P w K mg base CX0 4 gSc dSc ["script"] (spScene K) := ok_scene DSc.fn DC DD DW DP DCl mlen mrange mtup
  have GNt : FnOk P w K mg base CX0 4 gNt dNt ["columns"] (spNts K) := (ok_nts DNt.fn DRd mlen mrange mtup).mono (by decide)
  have GLW : FnOk P w K mg base CX0 4 gLW dLW ["entries", "notes"] (spLW K) := (ok_lw DLW.fn DLE mlen mrange mstr mint).mono (by decide)
  refine F.ok scLaw (fun vs H Q E h => ?_) (fun cdv A outer s H vs Q E hr h => ?_)
  · obtain ⟨a, ns, rfl, _⟩ := h
    rfl
  · obtain ⟨a, ns, rfl, hS, hn, hb, q⟩ := h
    refine ⟨_, pss_cons (ps_set (i := 1) scLaw.nd rfl (Or.inl rfl) (pe_ix ix_tup (pe_call GSc hr (by rfl) DSc.at_ DSc.fn.kp DSc.bn .nil pass0 (pa_cons (pv 0) pa_nil)) pe_int (fun _ _ => rfl)))
      (pss_cons (ps_set (i := 2) scLaw.nd rfl (Or.inl rfl) (pe_call GNt hr (by rfl) DNt.at_ DNt.fn.kp DNt.bn .nil pass0 (pa_cons (pv 1) pa_nil)))
      (pss_cons (ps_set (i := 3) scLaw.nd rfl (Or.inl rfl) (pe_callTy call_tuple_of (by rfl) mtup boot_tuple (pa_cons (pe_comp (Nc := ["column"]) (mp := [none]) rfl (CompOk.of (by rfl)) (pi_tup (pv 1))
        (fun cl C s H fp => ⟨pg_name (i := 0) nd_column rfl (Or.inl rfl), pts_nil, pe_ix (ix_tupK (K := K) rfl) (pv 0) pe_int (fun _ _ => rfl)⟩)) pa_nil)))
      (pss_cons (ps_set (i := 4) scLaw.nd rfl (Or.inl rfl) (pe_call GA hr (by rfl) DA.at_ DA.fn.kp DA.bn .nil pass0 (pa_cons (pv 3) (pa_cons (pv 2) pa_nil))))
      (pss_cons (ps_if (pw_or (pt_not (pt_val (pe_callB call_isi (by rfl) misi boot_isinstance (pa_cons (pv 4) (pa_cons (pe_bltn (v := .ty "str") (by rfl) mstr boot_str rfl) pa_nil))))) (pw_or1 (pt_cmpR op_ne (pv 4) (pe_call GLW hr (by rfl) DLW.at_ DLW.fn.kp DLW.bn .nil pass0 (pa_cons (pv 3) (pa_cons (pv 2) pa_nil))) (nomark _)))).pt (pss_one (ps_ret pe_bl)) pss_nil)
      (pss_one (ps_ret (pe_cmpR op_eq (pe_call GA hr (by rfl) DA.at_ DA.fn.kp DA.bn .nil pass0 (pa_cons (pe_tup pa_nil) (pa_cons (pe_tup pa_nil) pa_nil))) pe_str (nomark _)))))))), ?_⟩
    refine ⟨_, rfl, a, ns, rfl, hS, hn, hb, fun H1 t p cs m S1 ht hp hC m1 m30 hcl => ?_⟩
    refine ⟨t, _, _, _, rfl, rfl, SqT.of ht, rfl, ?_⟩
    refine ⟨_, rfl, p, cs, m, rfl, SqT.of hp, hC, m1, m30, hcl, fun H2 r xs S2 h2 hN hnl => ?_⟩
    have hp2 := S2 _ _ hp
    have hC2 := hC.mono S2
    refine ⟨_, rfl, p, rfl, ⟨_, SqT.of hp2⟩, comp_map (as := cs) (v := fun x => V.ref x.1) (fun x => x.2.getD 0 .non) (src_tup (SqT.of hp2)) (few (by omega)) (fun x hx k hk => ?_) (fun D hD => ?_)⟩
    · obtain ⟨k1, k2, k3⟩ := hC2 x hx
      have h0 : 0 < x.2.length := by omega
      exact ⟨_, rfl, x.1, _, _, _, rfl, rfl, SqT.of k1, atI_nat (j := 0) (by rw [List.getD_eq_getElem?_getD, List.getElem?_eq_getElem h0]; rfl), hk⟩
    · have hE : ∀ e ∈ cs.map (fun x => x.2.getD 0 .non), Ent e := fun e he => by
        obtain ⟨x, hx, rfl⟩ := List.mem_map.mp he
        obtain ⟨k1, k2, k3⟩ := hC2 x hx
        have h0 : 0 < x.2.length := by omega
        rw [List.getD_eq_getElem?_getD, List.getElem?_eq_getElem h0]
        exact k3 _ (List.getElem_mem h0)
      have hEl : (cs.map fun x => x.2.getD 0 V.non).length ≤ 1200 := by rw [List.length_map]; exact hcl
      generalize (cs.map fun x => x.2.getD 0 V.non) = es at hE hEl
      refine ⟨D, _, rfl, .inl ⟨SqL.of upd_same, fun p3 hp3 => ?_⟩⟩
      have S3 := (same_upd (o := .lst es) hD).trans (same_upd (o := .tup es) hp3)
      have h3 : upd (upd H2 D (.lst es)) p3 (.tup es) p3 = some (.tup es) := upd_same
      have h23 := S3 _ _ h2
      have hN3 : ∀ y ∈ xs, NoteAt (upd (upd H2 D (.lst es)) p3 (.tup es)) y.1 y.2 := fun y hy => (hN y hy).mono S3
      generalize upd (upd H2 D (.lst es)) p3 (.tup es) = H3 at S3 h3 h23 hN3
      refine ⟨_, rfl, _, rfl, p3, r, es, xs, rfl, SqT.of h3, hE, SqT.of h23, hN3, hEl, hnl, ?_⟩
      refine ⟨_, rfl, _, _, _, _, rfl, .str _, kit_same _, _, rfl, iteF ?_⟩
      refine ⟨_, rfl, _, rfl, _, rfl, p3, r, es, xs, rfl, SqT.of h3, hE, SqT.of h23, hN3, hEl, hnl, rfl, _, rfl, iteNS rfl ?_⟩
      refine ⟨Nat.zero_le _, fun t1 ht1 => ⟨Nat.zero_le _, fun t2 ht2 => ?_⟩⟩
      refine ⟨t1, t2, [], [], rfl, SqT.of ((same_upd ht2) _ _ upd_same), (fun _ z => nomatch z), SqT.of upd_same, (fun _ z => nomatch z), Nat.zero_le _, Nat.zero_le _, rfl, ?_⟩
      rw [app_none, decide_eq_true rfl]
      exact q _
end
theorem all_mk {l : PySem.W.OpenLaw} {w : World} {K : PySem.W.Frag} {h : Heap} {mg : Str → Option Value} {fa fEW fRW fNW fAW fCell fDraw fWordBy fPool fCol fRd fNts fLE fLW fScene fLaw : Addr} (X : K.In h) (G : h.Ns mainGlobals mg) (hfa : mg "law" = some (.ref fa))
    {odEW anEW odRW anRW odNW anNW odAW anAW odCell anCell odDraw anDraw odWordBy anWordBy odPool anPool odCol anCol odRd anRd odNts anNts odLE anLE odLW anLW odScene anScene odLaw anLaw : Option Addr} {slEW slRW slNW slAW slCell slDraw slWordBy slPool slCol slRd slNts slLE slLW slScene slLaw : Array (Option Value)} {ocEW kVEW dcEW pmEW cdEW ctEW ocRW kVRW dcRW pmRW cdRW ctRW ocNW kVNW dcNW pmNW cdNW ctNW ocAW kVAW dcAW pmAW cdAW ctAW ocCell kVCell dcCell pmCell cdCell ctCell ocDraw kVDraw dcDraw pmDraw cdDraw ctDraw ocWordBy kVWordBy dcWordBy pmWordBy cdWordBy ctWordBy ocPool kVPool dcPool pmPool cdPool ctPool ocCol kVCol dcCol pmCol cdCol ctCol ocRd kVRd dcRd pmRd cdRd ctRd ocNts kVNts dcNts pmNts cdNts ctNts ocLE kVLE dcLE pmLE cdLE ctLE ocLW kVLW dcLW pmLW cdLW ctLW ocScene kVScene dcScene pmScene cdScene ctScene ocLaw kVLaw dcLaw pmLaw cdLaw ctLaw : Value} {tkNO_ENTRY : Tok}
    (aEW : PySem.W.nsIn K mainGlobals "entry_written" = some (some (.ref fEW))) (lEW : K.lookup fEW = some ⟨ocEW, odEW, .func (PySem.W.fnOf "entry_written" "entry_written" (defArgs sEW) (defBody sEW) (defScope sEW) .none kVEW dcEW pmEW anEW cdEW ctEW), slEW⟩) (cEW : PySem.W.codeIn K cdEW "entry_written" = true) (kEW : PySem.W.keepIn K (.ref fEW) = true)
    (aRW : PySem.W.nsIn K mainGlobals "reading_written" = some (some (.ref fRW))) (lRW : K.lookup fRW = some ⟨ocRW, odRW, .func (PySem.W.fnOf "reading_written" "reading_written" (defArgs sRW) (defBody sRW) (defScope sRW) .none kVRW dcRW pmRW anRW cdRW ctRW), slRW⟩) (cRW : PySem.W.codeIn K cdRW "reading_written" = true) (kRW : PySem.W.keepIn K (.ref fRW) = true)
    (aNW : PySem.W.nsIn K mainGlobals "note_written" = some (some (.ref fNW))) (lNW : K.lookup fNW = some ⟨ocNW, odNW, .func (PySem.W.fnOf "note_written" "note_written" (defArgs sNW) (defBody sNW) (defScope sNW) .none kVNW dcNW pmNW anNW cdNW ctNW), slNW⟩) (cNW : PySem.W.codeIn K cdNW "note_written" = true) (kNW : PySem.W.keepIn K (.ref fNW) = true)
    (aAW : PySem.W.nsIn K mainGlobals "apparatus_written" = some (some (.ref fAW))) (lAW : K.lookup fAW = some ⟨ocAW, odAW, .func (PySem.W.fnOf "apparatus_written" "apparatus_written" (defArgs sAW) (defBody sAW) (defScope sAW) .none kVAW dcAW pmAW anAW cdAW ctAW), slAW⟩) (cAW : PySem.W.codeIn K cdAW "apparatus_written" = true) (kAW : PySem.W.keepIn K (.ref fAW) = true)
    (aCell : PySem.W.nsIn K mainGlobals "_law_cell_at" = some (some (.ref fCell))) (lCell : K.lookup fCell = some ⟨ocCell, odCell, .func (PySem.W.fnOf "_law_cell_at" "_law_cell_at" (defArgs sCell) (defBody sCell) (defScope sCell) .none kVCell dcCell pmCell anCell cdCell ctCell), slCell⟩) (cCell : PySem.W.codeIn K cdCell "_law_cell_at" = true) (kCell : PySem.W.keepIn K (.ref fCell) = true)
    (aDraw : PySem.W.nsIn K mainGlobals "_law_draw" = some (some (.ref fDraw))) (lDraw : K.lookup fDraw = some ⟨ocDraw, odDraw, .func (PySem.W.fnOf "_law_draw" "_law_draw" (defArgs sDraw) (defBody sDraw) (defScope sDraw) .none kVDraw dcDraw pmDraw anDraw cdDraw ctDraw), slDraw⟩) (cDraw : PySem.W.codeIn K cdDraw "_law_draw" = true) (kDraw : PySem.W.keepIn K (.ref fDraw) = true)
    (aWordBy : PySem.W.nsIn K mainGlobals "_law_word_by" = some (some (.ref fWordBy))) (lWordBy : K.lookup fWordBy = some ⟨ocWordBy, odWordBy, .func (PySem.W.fnOf "_law_word_by" "_law_word_by" (defArgs sWordBy) (defBody sWordBy) (defScope sWordBy) .none kVWordBy dcWordBy pmWordBy anWordBy cdWordBy ctWordBy), slWordBy⟩) (cWordBy : PySem.W.codeIn K cdWordBy "_law_word_by" = true) (kWordBy : PySem.W.keepIn K (.ref fWordBy) = true)
    (aPool : PySem.W.nsIn K mainGlobals "_law_pool" = some (some (.ref fPool))) (lPool : K.lookup fPool = some ⟨ocPool, odPool, .func (PySem.W.fnOf "_law_pool" "_law_pool" (defArgs sPool) (defBody sPool) (defScope sPool) .none kVPool dcPool pmPool anPool cdPool ctPool), slPool⟩) (cPool : PySem.W.codeIn K cdPool "_law_pool" = true) (kPool : PySem.W.keepIn K (.ref fPool) = true)
    (aCol : PySem.W.nsIn K mainGlobals "_law_column_by" = some (some (.ref fCol))) (lCol : K.lookup fCol = some ⟨ocCol, odCol, .func (PySem.W.fnOf "_law_column_by" "_law_column_by" (defArgs sCol) (defBody sCol) (defScope sCol) .none kVCol dcCol pmCol anCol cdCol ctCol), slCol⟩) (cCol : PySem.W.codeIn K cdCol "_law_column_by" = true) (kCol : PySem.W.keepIn K (.ref fCol) = true)
    (aRd : PySem.W.nsIn K mainGlobals "_law_readings_of" = some (some (.ref fRd))) (lRd : K.lookup fRd = some ⟨ocRd, odRd, .func (PySem.W.fnOf "_law_readings_of" "_law_readings_of" (defArgs sRd) (defBody sRd) (defScope sRd) .none kVRd dcRd pmRd anRd cdRd ctRd), slRd⟩) (cRd : PySem.W.codeIn K cdRd "_law_readings_of" = true) (kRd : PySem.W.keepIn K (.ref fRd) = true)
    (aNts : PySem.W.nsIn K mainGlobals "_law_notes_of" = some (some (.ref fNts))) (lNts : K.lookup fNts = some ⟨ocNts, odNts, .func (PySem.W.fnOf "_law_notes_of" "_law_notes_of" (defArgs sNts) (defBody sNts) (defScope sNts) .none kVNts dcNts pmNts anNts cdNts ctNts), slNts⟩) (cNts : PySem.W.codeIn K cdNts "_law_notes_of" = true) (kNts : PySem.W.keepIn K (.ref fNts) = true)
    (aLE : PySem.W.nsIn K mainGlobals "_law_entry" = some (some (.ref fLE))) (lLE : K.lookup fLE = some ⟨ocLE, odLE, .func (PySem.W.fnOf "_law_entry" "_law_entry" (defArgs sLE) (defBody sLE) (defScope sLE) .none kVLE dcLE pmLE anLE cdLE ctLE), slLE⟩) (cLE : PySem.W.codeIn K cdLE "_law_entry" = true) (kLE : PySem.W.keepIn K (.ref fLE) = true)
    (aLW : PySem.W.nsIn K mainGlobals "_law_written" = some (some (.ref fLW))) (lLW : K.lookup fLW = some ⟨ocLW, odLW, .func (PySem.W.fnOf "_law_written" "_law_written" (defArgs sLW) (defBody sLW) (defScope sLW) .none kVLW dcLW pmLW anLW cdLW ctLW), slLW⟩) (cLW : PySem.W.codeIn K cdLW "_law_written" = true) (kLW : PySem.W.keepIn K (.ref fLW) = true)
    (aScene : PySem.W.nsIn K mainGlobals "_law_scene" = some (some (.ref fScene))) (lScene : K.lookup fScene = some ⟨ocScene, odScene, .func (PySem.W.fnOf "_law_scene" "_law_scene" (defArgs sScene) (defBody sScene) (defScope sScene) .none kVScene dcScene pmScene anScene cdScene ctScene), slScene⟩) (cScene : PySem.W.codeIn K cdScene "_law_scene" = true) (kScene : PySem.W.keepIn K (.ref fScene) = true)
    (aLaw : PySem.W.nsIn K mainGlobals "law" = some (some (.ref fLaw))) (lLaw : K.lookup fLaw = some ⟨ocLaw, odLaw, .func (PySem.W.fnOf "law" "law" (defArgs sLaw) (defBody sLaw) (defScope sLaw) .none kVLaw dcLaw pmLaw anLaw cdLaw ctLaw), slLaw⟩) (cLaw : PySem.W.codeIn K cdLaw "law" = true) (kLaw : PySem.W.keepIn K (.ref fLaw) = true)
    (gNO_ENTRY : PySem.W.nsIn K mainGlobals "NO_ENTRY" = some (some (.str (Str.ofString "-") tkNO_ENTRY)))
    (blen : PySem.W.nsIn K mainGlobals "len" = some none)
    (brange : PySem.W.nsIn K mainGlobals "range" = some none)
    (bisinstance : PySem.W.nsIn K mainGlobals "isinstance" = some none)
    (btuple : PySem.W.nsIn K mainGlobals "tuple" = some none)
    (bstr : PySem.W.nsIn K mainGlobals "str" = some none)
    (bint : PySem.W.nsIn K mainGlobals "int" = some none)
    : ∃ fd : FuncData, (∀ (s : Shared) (v : Value), BindsTo s fd ⟨[v], []⟩ [("script", v)]) ∧ ∀ base : Heap, K.In base → base.Ns mainGlobals mg → FnOk l.prog w K mg base CX0 5 fa fd ["script"] (spLaw K) := by
  have e := hfa.symm.trans (PySem.W.mg_of X G aLaw)
  cases e
  have FEW := fun_mk (st := sEW) lEW cEW kEW
  have b_EW := FEW.binds (ps := ["entry"]) fun _ _ _ _ _ _ us hl => match us, hl with | [_], _ => rfl
  have DEW : Dfn K mg "entry_written" sEW fEW _ ["entry"] := ⟨FEW, PySem.W.mg_of X G aEW, b_EW⟩
  have FRW := fun_mk (st := sRW) lRW cRW kRW
  have b_RW := FRW.binds (ps := ["entry", "rows"]) fun _ _ _ _ _ _ us hl => match us, hl with | [_, _], _ => rfl
  have DRW : Dfn K mg "reading_written" sRW fRW _ ["entry", "rows"] := ⟨FRW, PySem.W.mg_of X G aRW, b_RW⟩
  have FNW := fun_mk (st := sNW) lNW cNW kNW
  have b_NW := FNW.binds (ps := ["number", "readings"]) fun _ _ _ _ _ _ us hl => match us, hl with | [_, _], _ => rfl
  have DNW : Dfn K mg "note_written" sNW fNW _ ["number", "readings"] := ⟨FNW, PySem.W.mg_of X G aNW, b_NW⟩
  have FAW := fun_mk (st := sAW) lAW cAW kAW
  have b_AW := FAW.binds (ps := ["entries", "notes"]) fun _ _ _ _ _ _ us hl => match us, hl with | [_, _], _ => rfl
  have DAW : Dfn K mg "apparatus_written" sAW fAW _ ["entries", "notes"] := ⟨FAW, PySem.W.mg_of X G aAW, b_AW⟩
  have FCell := fun_mk (st := sCell) lCell cCell kCell
  have b_Cell := FCell.binds (ps := ["script", "k"]) fun _ _ _ _ _ _ us hl => match us, hl with | [_, _], _ => rfl
  have DCell : Dfn K mg "_law_cell_at" sCell fCell _ ["script", "k"] := ⟨FCell, PySem.W.mg_of X G aCell, b_Cell⟩
  have FDraw := fun_mk (st := sDraw) lDraw cDraw kDraw
  have b_Draw := FDraw.binds (ps := ["cell", "k", "many"]) fun _ _ _ _ _ _ us hl => match us, hl with | [_, _, _], _ => rfl
  have DDraw : Dfn K mg "_law_draw" sDraw fDraw _ ["cell", "k", "many"] := ⟨FDraw, PySem.W.mg_of X G aDraw, b_Draw⟩
  have FWordBy := fun_mk (st := sWordBy) lWordBy cWordBy kWordBy
  have b_WordBy := FWordBy.binds (ps := ["cell", "k"]) fun _ _ _ _ _ _ us hl => match us, hl with | [_, _], _ => rfl
  have DWordBy : Dfn K mg "_law_word_by" sWordBy fWordBy _ ["cell", "k"] := ⟨FWordBy, PySem.W.mg_of X G aWordBy, b_WordBy⟩
  have FPool := fun_mk (st := sPool) lPool cPool kPool
  have b_Pool := FPool.binds (ps := ["cell"]) fun _ _ _ _ _ _ us hl => match us, hl with | [_], _ => rfl
  have DPool : Dfn K mg "_law_pool" sPool fPool _ ["cell"] := ⟨FPool, PySem.W.mg_of X G aPool, b_Pool⟩
  have FCol := fun_mk (st := sCol) lCol cCol kCol
  have b_Col := FCol.binds (ps := ["cell", "pool", "many"]) fun _ _ _ _ _ _ us hl => match us, hl with | [_, _, _], _ => rfl
  have DCol : Dfn K mg "_law_column_by" sCol fCol _ ["cell", "pool", "many"] := ⟨FCol, PySem.W.mg_of X G aCol, b_Col⟩
  have FRd := fun_mk (st := sRd) lRd cRd kRd
  have b_Rd := FRd.binds (ps := ["column"]) fun _ _ _ _ _ _ us hl => match us, hl with | [_], _ => rfl
  have DRd : Dfn K mg "_law_readings_of" sRd fRd _ ["column"] := ⟨FRd, PySem.W.mg_of X G aRd, b_Rd⟩
  have FNts := fun_mk (st := sNts) lNts cNts kNts
  have b_Nts := FNts.binds (ps := ["columns"]) fun _ _ _ _ _ _ us hl => match us, hl with | [_], _ => rfl
  have DNts : Dfn K mg "_law_notes_of" sNts fNts _ ["columns"] := ⟨FNts, PySem.W.mg_of X G aNts, b_Nts⟩
  have FLE := fun_mk (st := sLE) lLE cLE kLE
  have b_LE := FLE.binds (ps := ["entry"]) fun _ _ _ _ _ _ us hl => match us, hl with | [_], _ => rfl
  have DLE : Dfn K mg "_law_entry" sLE fLE _ ["entry"] := ⟨FLE, PySem.W.mg_of X G aLE, b_LE⟩
  have FLW := fun_mk (st := sLW) lLW cLW kLW
  have b_LW := FLW.binds (ps := ["entries", "notes"]) fun _ _ _ _ _ _ us hl => match us, hl with | [_, _], _ => rfl
  have DLW : Dfn K mg "_law_written" sLW fLW _ ["entries", "notes"] := ⟨FLW, PySem.W.mg_of X G aLW, b_LW⟩
  have FScene := fun_mk (st := sScene) lScene cScene kScene
  have b_Scene := FScene.binds (ps := ["script"]) fun _ _ _ _ _ _ us hl => match us, hl with | [_], _ => rfl
  have DScene : Dfn K mg "_law_scene" sScene fScene _ ["script"] := ⟨FScene, PySem.W.mg_of X G aScene, b_Scene⟩
  have FLaw := fun_mk (st := sLaw) lLaw cLaw kLaw
  have mNO_ENTRY := PySem.W.mg_of X G gNO_ENTRY
  have mlen := PySem.W.mg_none_of X G blen
  have mrange := PySem.W.mg_none_of X G brange
  have misinstance := PySem.W.mg_none_of X G bisinstance
  have mtuple := PySem.W.mg_none_of X G btuple
  have mstr := PySem.W.mg_none_of X G bstr
  have mint := PySem.W.mg_none_of X G bint
  exact ⟨PySem.W.fnOf "law" "law" (defArgs sLaw) (defBody sLaw) (defScope sLaw) .none kVLaw dcLaw pmLaw anLaw cdLaw ctLaw, fun s v => .of_eq rfl, fun base _ _ => ok_law FLaw DEW DRW DNW DAW DCell DDraw DWordBy DPool DCol DRd DNts DLE DLW DScene mlen mrange misinstance mtuple mstr mint mNO_ENTRY⟩
theorem walk {l : PySem.W.OpenLaw} {q : Program} {loose : List Str} {XP : (Str → Option Value) → Heap → Prop} {YP : World → Heap → Prop} {d : DefRec} {K : Params → PySem.W.Frag} (hn : l.most = some 63) (hdf : d.params.defaults = [])
    (hY : ∀ (w : World) (h : Heap), YP w h → (K w.params).In h)
    (F : ∀ (w : World) (mg : Str → Option Value) (fa : Addr) (h : Heap), (K w.params).In h → h.Ns mainGlobals mg → mg d.name = some (.ref fa) →
      ∃ fd : FuncData, (∀ (s : Shared) (u : Value), BindsTo s fd ⟨[u], []⟩ [("script", u)]) ∧ ∀ base : Heap, (K w.params).In base → base.Ns mainGlobals mg → FnOk l.prog w (K w.params) mg base CX0 5 fa fd ["script"] (spLaw (K w.params))) :
    PySem.W.WalkO q loose XP YP l.row.toRowW d [] (fun f vs => PySem.call f vs) :=
  L3.walk_ofB (n := 63) (k := 5) (x := "script") (CX := fun _ => CX0) (sp := fun w => spLaw (K w.params)) hn (by decide) hdf ⟨rfl, by decide, by decide⟩ hY F (fun _ _ a ns hl hb _ hS => ⟨a, ns, rfl, hS, hl, hb, fun _ => rfl⟩) fun _ _ _ _ _ z => z
end K30
open PySem PySem.W PyProof.Rows
set_option maxRecDepth 100000 in
set_option maxHeartbeats 0 in
theorem PySem.Challenge.cw_vellum_k30_an_apparatus_written_holds : PySem.Challenge.rw_vellum_k30_an_apparatus_written.Holds := by
  w_on; o_law; k_head; (case hw => w_witness2)
  k_fill
  refine K30.walk (l := PySem.Challenge.rw_vellum_k30_an_apparatus_written) rfl rfl (fun w h Y => PySem.W.kIn_of Y) ?F
  case F =>
    intro w mg fa h KX G hmg
    refine' K30.all_mk KX G hmg ?aEW ?lEW ?cEW ?kEW ?aRW ?lRW ?cRW ?kRW ?aNW ?lNW ?cNW ?kNW ?aAW ?lAW ?cAW ?kAW ?aCell ?lCell ?cCell ?kCell ?aDraw ?lDraw ?cDraw ?kDraw ?aWordBy ?lWordBy ?cWordBy ?kWordBy ?aPool ?lPool ?cPool ?kPool ?aCol ?lCol ?cCol ?kCol ?aRd ?lRd ?cRd ?kRd ?aNts ?lNts ?cNts ?kNts ?aLE ?lLE ?cLE ?kLE ?aLW ?lLW ?cLW ?kLW ?aScene ?lScene ?cScene ?kScene ?aLaw ?lLaw ?cLaw ?kLaw ?gNO_ENTRY ?blen ?brange ?bisinstance ?btuple ?bstr ?bint
    (case aEW => k_is)
    (case lEW => k_is)
    (case cEW => k_is)
    (case kEW => k_is)
    (case aRW => k_is)
    (case lRW => k_is)
    (case cRW => k_is)
    (case kRW => k_is)
    (case aNW => k_is)
    (case lNW => k_is)
    (case cNW => k_is)
    (case kNW => k_is)
    (case aAW => k_is)
    (case lAW => k_is)
    (case cAW => k_is)
    (case kAW => k_is)
    (case aCell => k_is)
    (case lCell => k_is)
    (case cCell => k_is)
    (case kCell => k_is)
    (case aDraw => k_is)
    (case lDraw => k_is)
    (case cDraw => k_is)
    (case kDraw => k_is)
    (case aWordBy => k_is)
    (case lWordBy => k_is)
    (case cWordBy => k_is)
    (case kWordBy => k_is)
    (case aPool => k_is)
    (case lPool => k_is)
    (case cPool => k_is)
    (case kPool => k_is)
    (case aCol => k_is)
    (case lCol => k_is)
    (case cCol => k_is)
    (case kCol => k_is)
    (case aRd => k_is)
    (case lRd => k_is)
    (case cRd => k_is)
    (case kRd => k_is)
    (case aNts => k_is)
    (case lNts => k_is)
    (case cNts => k_is)
    (case kNts => k_is)
    (case aLE => k_is)
    (case lLE => k_is)
    (case cLE => k_is)
    (case kLE => k_is)
    (case aLW => k_is)
    (case lLW => k_is)
    (case cLW => k_is)
    (case kLW => k_is)
    (case aScene => k_is)
    (case lScene => k_is)
    (case cScene => k_is)
    (case kScene => k_is)
    (case aLaw => k_is)
    (case lLaw => k_is)
    (case cLaw => k_is)
    (case kLaw => k_is)
    (case gNO_ENTRY => k_is)
    (case blen => k_is)
    (case brange => k_is)
    (case bisinstance => k_is)
    (case btuple => k_is)
    (case bstr => k_is)
    (case bint => k_is)
