import PyProof.Rows.All
import Wide.All
import OpenK.AllK
import Wide.FinOn
import Lean
import PyProof.EqAt
import PyProof.EqKinds
import PyProof.TupleCall
import PyProof.ListMulRoad
import PyProof.Rows.ListMul
import PySem.Challenge.RW_vellum_k31_an_apparatus_read

set_option Elab.async false
set_option linter.all false
set_option maxRecDepth 100000
/-! THE HAND LAYER, for ints, bools, texts, own classes, LISTS and tuples (index, slices, in, append, pop ..), calls, loops. Paste it whole ahead of your own text; what your proof does not reach may be deleted. -/
namespace L2
open PySem PySem.Spec PyProof.Rows

/-- a key: an int or a str -/
abbrev Key := Sum Int Str
def keyIs : Key → Value → Bool
  | .inl k, v => Value.isInt k v
  | .inr x, v => Value.isStrOf x v
def keyH (w : World) : Key → Int
  | .inl k => hashInt k
  | .inr x => hashStr w x
theorem keyIs_shape : ∀ {k : Key} {v : Value}, keyIs k v = true → (∃ i t, k = Sum.inl i ∧ v = Value.int i t) ∨ (∃ x t, k = Sum.inr x ∧ v = Value.str x t)
  | .inl i, v, h => by
    obtain ⟨t, e⟩ := Value.isInt_shape (k := i) (v := v) h
    exact .inl ⟨i, t, rfl, e⟩
  | .inr x, v, h => by
    obtain ⟨t, e⟩ := Value.isStrOf_shape (x := x) (v := v) h
    exact .inr ⟨x, t, rfl, e⟩
theorem keyIs_str (x : Str) (t : Tok) : keyIs (.inr x) (.str x t) = true := by simp [keyIs, Value.isStrOf]
theorem key_ll (a b : Int) : decide ((Sum.inl a : Key) = Sum.inl b) = (a == b) := by
  by_cases e : a = b
  · subst e; simp
  · have h : ¬ (Sum.inl a : Key) = Sum.inl b := fun q => e (Sum.inl.inj q)
    rw [decide_eq_false h]
    exact (beq_eq_false_iff_ne.mpr e).symm
theorem key_rr (a b : Str) : decide ((Sum.inr a : Key) = Sum.inr b) = decide (a = b) := by
  by_cases e : a = b
  · subst e; simp
  · have h : ¬ (Sum.inr a : Key) = Sum.inr b := fun q => e (Sum.inr.inj q)
    rw [decide_eq_false h, decide_eq_false e]
theorem key_lr (a : Int) (b : Str) : decide ((Sum.inl a : Key) = Sum.inr b) = false := decide_eq_false (fun q => nomatch q)
theorem key_rl (a : Str) (b : Int) : decide ((Sum.inr a : Key) = Sum.inl b) = false := decide_eq_false (fun q => nomatch q)

def mixKind (prog : Program) (w : World) : PySem.KeyKind prog w Key where
  is := keyIs
  hash := keyH w
  inj := fun v a b ha hb => by
    rcases keyIs_shape ha with ⟨i, t, rfl, rfl⟩ | ⟨x, t, rfl, rfl⟩
    · rcases keyIs_shape hb with ⟨j, u, rfl, e⟩ | ⟨y, u, rfl, e⟩
      · injection e with e1 _; rw [e1]
      · exact nomatch e
    · rcases keyIs_shape hb with ⟨j, u, rfl, e⟩ | ⟨y, u, rfl, e⟩
      · exact nomatch e
      · injection e with e1 _; rw [e1]
  byValue := fun k v h => by
    rcases keyIs_shape h with ⟨i, t, rfl, rfl⟩ | ⟨x, t, rfl, rfl⟩ <;> rfl
  pyHash := fun hv h => by
    rcases keyIs_shape hv with ⟨i, t, rfl, rfl⟩ | ⟨x, t, rfl, rfl⟩
    · exact wpAny_pyHash_int h
    · exact wpAny_pyHash_str h
  eqBool := fun hu hv h => by
    rcases keyIs_shape hu with ⟨i, t, rfl, rfl⟩ | ⟨x, t, rfl, rfl⟩
    · rcases keyIs_shape hv with ⟨j, u, rfl, rfl⟩ | ⟨y, u, rfl, rfl⟩
      · rw [key_ll] at h; exact wpAny_eqBool_int h
      · rw [key_lr] at h; exact SeqAt.EqAt.int_str i t y u _ _ _ _ h
    · rcases keyIs_shape hv with ⟨j, u, rfl, rfl⟩ | ⟨y, u, rfl, rfl⟩
      · rw [key_rl] at h; exact SeqAt.EqAt.str_int x t j u _ _ _ _ h
      · rw [key_rr] at h; exact wpAny_eqBool_str h
  «strs» := fun k x t v h => by
    rcases keyIs_shape h with ⟨i, u, rfl, e⟩ | ⟨y, u, rfl, e⟩
    · exact nomatch e
    · injection e with e1 _
      subst e1
      cases v <;> rfl

end L2

namespace L2
open PySem PySem.Spec PyProof.Rows

/-- a value, without the heap -/
inductive V where
  | non | bl (b : Bool) | int (i : Int) | str (x : Str) | byt (b : Array UInt8) | flt (b : UInt64) | ref (a : Addr) | ty (n : String)
  deriving DecidableEq

def RelV : V → Value → Prop
  | .non, u => u = Value.none
  | .bl b, u => u = Value.bool b
  | .int i, u => ∃ t, u = Value.int i t
  | .str x, u => ∃ t, u = Value.str x t
  | .byt b, u => ∃ t, u = Value.bytes b t
  | .flt b, u => ∃ t, u = Value.float b t
  | .ref a, u => u = Value.ref a
  | .ty n, u => u = Value.type n

abbrev Vals : List V → List Value → Prop := Paired RelV
theorem Vals.length {xs : List V} {us : List Value} (r : Vals xs us) : xs.length = us.length := Paired.length r
theorem Vals.get : ∀ {xs : List V} {us : List Value} {i : Nat} {x : V}, Vals xs us → xs[i]? = some x → ∃ u, us[i]? = some u ∧ RelV x u
  | _, _, _, _, .nil, e => by simp at e
  | _, _, 0, _, .cons r _, e => by simp at e; subst e; exact ⟨_, rfl, r⟩
  | _, _, i + 1, x, .cons _ t, e => by
    obtain ⟨u, h1, h2⟩ := Vals.get (i := i) (x := x) t (by simpa using e)
    exact ⟨u, by simpa using h1, h2⟩
theorem Vals.set {x : V} {u : Value} (r : RelV x u) : ∀ {xs : List V} {us : List Value} (i : Nat), Vals xs us → Vals (xs.set i x) (us.set i u)
  | _, _, _, .nil => .nil
  | _, _, 0, .cons _ t => .cons r t
  | _, _, i + 1, .cons q t => .cons q (Vals.set r i t)
theorem Vals.append : ∀ {xs ys : List V} {us ws : List Value}, Vals xs us → Vals ys ws → Vals (xs ++ ys) (us ++ ws)
  | _, _, _, _, .nil, s => s
  | _, _, _, _, .cons r t, s => .cons r (Vals.append t s)
theorem Vals.take : ∀ {xs : List V} {us : List Value} (n : Nat), Vals xs us → Vals (xs.take n) (us.take n)
  | _, _, 0, _ => .nil
  | _, _, _ + 1, .nil => .nil
  | _, _, n + 1, .cons r t => .cons r (Vals.take n t)
theorem Vals.drop : ∀ {xs : List V} {us : List Value} (n : Nat), Vals xs us → Vals (xs.drop n) (us.drop n)
  | _, _, 0, r => r
  | _, _, _ + 1, .nil => .nil
  | _, _, n + 1, .cons _ t => Vals.drop n t
def RelO : Option V → Option Value → Prop
  | some v, some u => RelV v u
  | none, none => True
  | _, _ => False
def KV {κ : Type} : List (κ × V) → List (κ × Value) → Prop := Paired fun (p : κ × V) (q : κ × Value) => p.1 = q.1 ∧ RelV p.2 q.2

/-- what stands at a tracked address -/
inductive HO where
  /-- a list -/
  | lst (xs : List V)
  /-- a tuple (never changes) -/
  | tup (xs : List V)
  /-- a dict whose keys are ints and texts; one whose keys are tuples of ints and texts (the empty one is both) -/
  | dK (kvs : List (Key × V)) | dT (kvs : List (List Key × V))
  /-- a set of ints: its members, its size -/
  | set (S : Int → Bool) (n : Nat)
  /-- an instance of the class at C, its dict at dx, its attributes -/
  | ins (C dx : Addr) (fs : List (Str × V))
  /-- the dict of the instance at x -/
  | own (x : Addr)
  /-- the dict of an exception -/
  | xd (fs : List (Str × V))
  /-- a bound method, f of x -/
  | met (f x : Addr)
  /-- a range object lo, lo + 1, .. below hi -/
  | rng (lo hi : Int)
  /-- a thing that is known to the object (the script; a dict while a loop walks it): read, never written while it is so -/
  | frz (o : Obj) (u : HO)
  /-- a code object's table -/
  | tbl (ps : Array Value)
  /-- any other thing, by what is true of its one object (a def of one's own: SetO a S n := HO.ext fun h => ..) -/
  | ext (φ : Heap → Prop)

abbrev Hp := Addr → Option HO
def upd (H : Hp) (a : Addr) (o : HO) : Hp := fun b => if b = a then some o else H b
theorem upd_same {H : Hp} {a : Addr} {o : HO} : upd H a o a = some o := by unfold upd; rw [if_pos rfl]
theorem upd_ne {H : Hp} {a b : Addr} {o : HO} (h : b ≠ a) : upd H a o b = H b := by unfold upd; rw [if_neg h]
/-- two objects of different content stand apart -/
theorem ne_of {H : Hp} {a b : Addr} {o u : HO} (h : H a = some o) (h' : H b = some u) (d : o ≠ u) : a ≠ b := by
  intro e; subst e; rw [h] at h'; exact d (Option.some.inj h')
theorem ne_of_none {H : Hp} {a b : Addr} {o : HO} (h : H a = some o) (h' : H b = none) : a ≠ b := by
  intro e; subst e; rw [h] at h'; cases h'

section
variable (P : Program) (w : World)
def ObjOk (H : Hp) (h : Heap) (a : Addr) : HO → Prop
  | .lst xs => xs.length ≤ sizeLine ∧ ∃ (its : List Value) (n : Nat), Vals xs its ∧ h.get? a = some { cls := .type "list", data := .seq its.toArray n }
  | .tup xs => xs.length ≤ sizeLine ∧ ∃ its : List Value, Vals xs its ∧ IsTup h a its.toArray
  | .dK kvs => kvs.length ≤ sizeLine ∧ (a == sysModules) = false ∧ ∃ vs, KV kvs vs ∧ h.DictOf (mixKind P w) a vs
  | .dT _ => False
  | .set S n => h.SetOf (intKind P w) a S n
  | .ins C dx fs => H dx = some (.own a) ∧ fs.length ≤ 1000 ∧ dx ≠ a ∧ h.get? a = some (PySem.W.instObj C dx) ∧
      ∃ mA, h.Ns1 dx mA ∧ (∀ f, RelO (fs.lookup f) (mA f)) ∧ PySem.Within mA (fs.map (·.1))
  | .own _ => ∃ o, h.get? a = some o
  | .xd fs => ∃ mA, h.Ns1 a mA ∧ ∀ f, RelO (fs.lookup f) (mA f)
  | .rng lo hi => ∃ t u v, h.get? a = some { cls := .type "range", data := .fields #[.int lo t, .int hi u, .int 1 v] }
  | .frz o u => h.get? a = some o ∧ ObjOk H h a u
  | .tbl ps => h.get? a = some { cls := .none, data := .fields ps }
  | .met f x => h.get? a = some (PySem.W.methodObj (.ref f) (.ref x))
  | .ext φ => φ h ∧ (∃ o, h.get? a = some o) ∧ ∀ h1 h2 : Heap, φ h1 → (∀ o, h1.get? a = some o → h2.get? a = some o) → φ h2
/-- the abstract heap is held -/
def HOk (H : Hp) (h : Heap) : Prop := ∀ a o, H a = some o → ObjOk P w H h a o
end

section
variable {P : Program} {w : World} {H H' : Hp} {h h' : Heap} {a : Addr} {o : HO}
theorem ObjOk.lt (x : ObjOk P w H h a o) : a < h.objs.size := by
  cases o with
  | lst xs => obtain ⟨_, _, _, _, e⟩ := x; exact Heap.lt_size e
  | tup xs => obtain ⟨_, _, _, p⟩ := x; exact p.lt
  | dK kvs => obtain ⟨_, _, _, _, o, _, _, e, _⟩ := x; exact Heap.lt_size e
  | dT kvs => exact False.elim x
  | set S n => obtain ⟨o, _, _, _, e, _⟩ := x; exact Heap.lt_size e
  | ins C dx fs => obtain ⟨_, _, _, e, _⟩ := x; exact Heap.lt_size e
  | own y => obtain ⟨_, e⟩ := x; exact Heap.lt_size e
  | xd fs => obtain ⟨_, ⟨_, _, _, e, _⟩, _⟩ := x; exact Heap.lt_size e
  | rng lo hi => obtain ⟨_, _, _, e⟩ := x; exact Heap.lt_size e
  | frz ob u => obtain ⟨e, _⟩ := x; exact Heap.lt_size e
  | tbl ps => exact Heap.lt_size (show h.get? a = some _ from x)
  | met f y => exact Heap.lt_size (show h.get? a = some _ from x)
  | ext φ => obtain ⟨_, ⟨_, e⟩, _⟩ := x; exact Heap.lt_size e
/-- what an object's description leans on: its own object, its own dict, the tuples -/
theorem ObjOk.stay (x : ObjOk P w H h a o) (k : ∀ b u, (b = a ∨ H b = some (.own a)) → h.get? b = some u → h'.get? b = some u)
    (ho : ∀ b, H b = some (.own a) → H' b = some (.own a)) (ht : ∀ b xs, H b = some (.tup xs) → H' b = some (.tup xs)) : ObjOk P w H' h' a o := by
  induction o with
  | lst xs => obtain ⟨z, its, n, r, e⟩ := x; exact ⟨z, its, n, r, k _ _ (.inl rfl) e⟩
  | tup xs => obtain ⟨z, its, r, ob, e, c⟩ := x; exact ⟨z, its, r, ob, k _ _ (.inl rfl) e, c⟩
  | dK kvs => obtain ⟨z, y, vs, r, ob, es, ep, e, c⟩ := x; exact ⟨z, y, vs, r, ob, es, ep, k _ _ (.inl rfl) e, c⟩
  | dT kvs => exact False.elim x
  | set S n => obtain ⟨ob, es, ep, t, e, c⟩ := x; exact ⟨ob, es, ep, t, k _ _ (.inl rfl) e, c⟩
  | ins C dx fs =>
    obtain ⟨d, z, ne, e, mA, ⟨od, es, ep, e2, c⟩, r⟩ := x
    exact ⟨ho _ d, z, ne, k _ _ (.inl rfl) e, mA, ⟨od, es, ep, k _ _ (.inr d) e2, c⟩, r⟩
  | own y => obtain ⟨ob, e⟩ := x; exact ⟨ob, k _ _ (.inl rfl) e⟩
  | xd fs => obtain ⟨mA, ⟨od, es, ep, e, c⟩, r⟩ := x; exact ⟨mA, ⟨od, es, ep, k _ _ (.inl rfl) e, c⟩, r⟩
  | rng lo hi => obtain ⟨t, u, v, e⟩ := x; exact ⟨t, u, v, k _ _ (.inl rfl) e⟩
  | frz ob u ih => obtain ⟨e, q⟩ := x; exact ⟨k _ _ (.inl rfl) e, ih q⟩
  | tbl ps =>
    have e : h.get? a = some { cls := .none, data := .fields ps } := x
    show h'.get? a = some { cls := .none, data := .fields ps }
    exact k a _ (.inl rfl) e
  | met f y =>
    have e : h.get? a = some (PySem.W.methodObj (.ref f) (.ref y)) := x
    show h'.get? a = some (PySem.W.methodObj (.ref f) (.ref y))
    exact k a _ (.inl rfl) e
  | ext φ => obtain ⟨p, ⟨o, e⟩, st⟩ := x; exact ⟨st _ _ p fun o q => k _ _ (.inl rfl) q, ⟨o, k _ _ (.inl rfl) e⟩, st⟩
theorem HOk.lt (x : HOk P w H h) (e : H a = some o) : a < h.objs.size := (x a o e).lt
theorem HOk.fresh (x : HOk P w H h) (e : h.objs.size ≤ a) : H a = none := by
  cases q : H a with
  | none => rfl
  | some u => exact absurd (Nat.lt_of_lt_of_le (x.lt q) e) (Nat.lt_irrefl _)
/-- every object of the heap is kept -/
theorem HOk.kept (x : HOk P w H h) (k : ∀ b u, h.get? b = some u → h'.get? b = some u) : HOk P w H h' := fun a o e =>
  (x a o e).stay (fun b u _ q => k b u q) (fun _ q => q) fun _ _ q => q
/-- a new object is laid and tracked -/
theorem HOk.laid (x : HOk P w H h) (k : ∀ b u, h.get? b = some u → h'.get? b = some u) (hp : h.objs.size ≤ a) (new : ObjOk P w (upd H a o) h' a o) : HOk P w (upd H a o) h' := fun b u e => by
  have hn := x.fresh hp
  by_cases hb : b = a
  · subst hb; rw [upd_same] at e; cases e; exact new
  · rw [upd_ne hb] at e
    exact (x b u e).stay (fun c v _ q => k c v q) (fun c q => by rw [upd_ne (ne_of_none q hn)]; exact q) fun c xs q => by rw [upd_ne (ne_of_none q hn)]; exact q
end

/-- what may be read as u: it is u, or a known u -/
def Rd (H : Hp) (a : Addr) (u : HO) : Prop := H a = some u ∨ ∃ o, H a = some (.frz o u)
theorem Rd.ok {P : Program} {w : World} {H : Hp} {h : Heap} {a : Addr} {u : HO} (r : Rd H a u) (x : HOk P w H h) : ObjOk P w H h a u := by
  rcases r with r | ⟨o, r⟩
  · exact x a u r
  · obtain ⟨_, q⟩ := x a _ r
    exact q
/-- what may be written -/
def Mut : Option HO → Prop
  | some (.lst _) => True
  | some (.dK _) => True
  | some (.dT _) => True
  | some (.set _ _) => True
  | some (.ins _ _ _) => True
  | some (.ext _) => True
  | _ => False
section
variable {P : Program} {w : World} {H : Hp} {h h' : Heap} {x e : Addr} {o' : HO}
/-- the object at e is changed: x itself, or the dict of the instance x -/
theorem HOk.write (ok : HOk P w H h) (mu : Mut (H x)) (he : e = x ∨ H e = some (.own x)) (k : ∀ b u, b ≠ e → h.get? b = some u → h'.get? b = some u) (heo : ∃ u, h'.get? e = some u)
    (new : ObjOk P w (upd H x o') h' x o') : HOk P w (upd H x o') h' := fun b u q => by
  have nown : ∀ c y, H c = some (.own y) → c ≠ x := fun c y r z => by subst z; rw [r] at mu; exact mu
  have ntup : ∀ c xs, H c = some (.tup xs) → c ≠ x := fun c xs r z => by subst z; rw [r] at mu; exact mu
  by_cases hb : b = x
  · subst hb; rw [upd_same] at q; cases q; exact new
  · rw [upd_ne hb] at q
    by_cases hbe : b = e
    · have q' : H b = some (.own x) := by
        rcases he with z | z
        · exact absurd (hbe.trans z) hb
        · rw [hbe]; exact z
      rw [q] at q'; cases q'
      obtain ⟨v, hv⟩ := heo
      exact ⟨v, by rw [hbe]; exact hv⟩
    · refine (ok b u q).stay (fun c v hc r => k c v ?_ r) (fun c r => by rw [upd_ne (nown c b r)]; exact r) fun c xs r => by rw [upd_ne (ntup c xs r)]; exact r
      rcases hc with rfl | hc
      · exact hbe
      · rintro rfl
        rcases he with z | z
        · exact nown c b hc z
        · rw [hc] at z; cases z; exact hb rfl
end

/-! ### kept unless tracked; of the frames at fs (the callers') the slots may change (an exception that passes writes there); of the records at ex (iterators) nothing is said -/
structure Un (fs ex : List Addr) (H H' : Hp) (h h' : Heap) : Prop where
  keep : ∀ b o, h.get? b = some o → H b = none → b ∉ fs → b ∉ ex → h'.get? b = some o
  slot : ∀ b o, h.get? b = some o → H b = none → b ∈ fs → b ∉ ex → ∃ sl, h'.get? b = some { o with slots := sl }
  free : ∀ b o, h.get? b = some o → H b = none → b ∉ ex → H' b = none
  there : ∀ b o, h.get? b = some o → b ∉ ex → ∃ o', h'.get? b = some o'
  tups : ∀ b xs, H b = some (.tup xs) → H' b = some (.tup xs)
  frzs : ∀ b o u, H b = some (.frz o u) → H' b = some (.frz o u)
  tbls : ∀ b ps, H b = some (.tbl ps) → ∃ more, H' b = some (.tbl (ps ++ more))
section
variable {fs fs' ex ex' : List Addr} {H H1 H2 : Hp} {h h1 h2 h' : Heap} {a x e : Addr} {o : HO}
theorem Un.any (u : Un fs ex H H1 h h1) {b : Addr} {ob : Obj} (q : h.get? b = some ob) (n : H b = none) (hx : b ∉ ex) : ∃ sl, h1.get? b = some { ob with slots := sl } := by
  by_cases hb : b ∈ fs
  · exact u.slot b ob q n hb hx
  · exact ⟨ob.slots, u.keep b ob q n hb hx⟩
theorem Un.kept (k : ∀ b u, h.get? b = some u → h'.get? b = some u) : Un fs ex H H h h' :=
  ⟨fun b ob q _ _ _ => k b ob q, fun b ob q _ _ _ => ⟨ob.slots, k b ob q⟩, fun _ _ _ n _ => n, fun b ob q _ => ⟨ob, k b ob q⟩, fun _ _ q => q, fun _ _ _ q => q, fun _ ps q => ⟨#[], by rw [q]; simp⟩⟩
theorem Un.refl : Un fs ex H H h h := Un.kept fun _ _ q => q
theorem Un.laid (k : ∀ b u, h.get? b = some u → h'.get? b = some u) (hp : h.objs.size ≤ a) (hn : H a = none) : Un fs ex H (upd H a o) h h' where
  keep := fun b u q _ _ _ => k b u q
  slot := fun b u q _ _ _ => ⟨u.slots, k b u q⟩
  free := fun b u q n _ => by rw [upd_ne (Nat.ne_of_lt (Nat.lt_of_lt_of_le (Heap.lt_size q) hp))]; exact n
  there := fun b u q _ => ⟨u, k b u q⟩
  tups := fun b xs q => by rw [upd_ne (ne_of_none q hn)]; exact q
  frzs := fun b u xs q => by rw [upd_ne (ne_of_none q hn)]; exact q
  tbls := fun b ps q => ⟨#[], by rw [upd_ne (ne_of_none q hn), q]; simp⟩
theorem Un.write (mu : Mut (H x)) (he : e = x ∨ H e = some (.own x)) (k : ∀ b u, b ≠ e → h.get? b = some u → h'.get? b = some u) (heo : ∃ u, h'.get? e = some u) : Un fs ex H (upd H x o) h h' := by
  have hx : ∀ b, H b = none → b ≠ x := fun b n z => by subst z; rw [n] at mu; exact mu
  have hb : ∀ b, H b = none → b ≠ e := fun b n z => by
    subst z
    rcases he with r | r
    · exact hx b n r
    · rw [n] at r; cases r
  have hm : ∀ b u, H b = some u → ¬ Mut (some u) → b ≠ x := fun b u q nm z => by subst z; rw [q] at mu; exact nm mu
  refine ⟨fun b u q n _ _ => k b u (hb b n) q, fun b u q n _ _ => ⟨u.slots, k b u (hb b n) q⟩, fun b u q n _ => by rw [upd_ne (hx b n)]; exact n, fun b u q _ => ?_,
    fun b xs q => by rw [upd_ne (hm b _ q fun z => z)]; exact q, fun b u xs q => by rw [upd_ne (hm b _ q fun z => z)]; exact q, fun b ps q => ⟨#[], by rw [upd_ne (hm b _ q fun z => z), q]; simp⟩⟩
  by_cases hbe : b = e
  · subst hbe; exact heo
  · exact ⟨u, k b u hbe q⟩
end

/-! ### the heap without what is tracked -/
def trk (h : Heap) (H : Hp) : List Addr := (List.range h.objs.size).filter fun a => (H a).isSome
def hidT (h : Heap) (H : Hp) : Heap := PySem.W.hideAll h (trk h H)
theorem hidT_size (h : Heap) (H : Hp) : (hidT h H).objs.size = h.objs.size := PySem.W.hideAll_size _ _
theorem hidT_get {h : Heap} {H : Hp} {b : Addr} {o : Obj} (e : h.get? b = some o) (n : H b = none) : (hidT h H).get? b = some o :=
  PySem.W.hideAll_get _ e fun hm => by
    have q : (H b).isSome = true := (List.mem_filter.mp hm).2
    rw [n] at q; simp at q
theorem of_hidT {h : Heap} {H : Hp} {b : Addr} {o : Obj} (e : (hidT h H).get? b = some o) : h.get? b = some o ∧ H b = none := by
  have e' : h.get? b = some o := PySem.W.of_hideAll (trk h H) e
  refine ⟨e', ?_⟩
  cases q : H b with
  | none => rfl
  | some x =>
    have hm : b ∈ trk h H := List.mem_filter.mpr ⟨List.mem_range.mpr (Heap.lt_size e'), by simp [q]⟩
    have z : (hidT h H).get? b = none := PySem.W.hideAll_none (trk h H) hm
    rw [z] at e; cases e

/-! ### OpenK's ledger, filled with every new object but one -/
end L2

namespace L2
open PySem PySem.Spec PyProof.Rows

/-- the module's facts, over the base: the heap at the law's entry without what is tracked there -/
structure Mod (K : PySem.W.Frag) (mg : Str → Option Value) (base : Heap) : Prop where
  kin : K.In base
  glob : base.Ns mainGlobals mg
  blt : ∃ mb, base.Ns builtinsNs mb ∧ ∀ x : Str, x ≠ "__name__" → mb x = bootBuiltins x
  nolimit : base.NoLimit

/-- the context: a def's body (or a comprehension's block) running. base: fixed through the whole law; s₀, H₀: the entry; outer: the frames whose slots others may change (a def's callers); stack: all frames that run;
   ex: iterators that were made ahead of the entry and are walked here (a comprehension's); fn: the names whose cells were made at the entry (a def: all; a comprehension's block: its own); calm: not within an except suite; pn: pins that every state bears; xe: what is wanted of an exception that leaves the code -/
structure Cx where
  prog : Program
  w : World
  K : PySem.W.Frag
  mg : Str → Option Value
  base : Heap
  A : Around
  N : List Str
  s₀ : Shared
  H₀ : Hp
  env : Env
  outer : List Env
  stack : List Env
  ex : List Addr
  fn : Str → Bool
  calm : Bool
  pn : List (Addr × Obj)
  xe : Value → Shared → Prop
/-- the callers' frames -/
def frs (l : List Env) : List Addr := l.filterMap (·.frame)
abbrev Cx.fs (X : Cx) : List Addr := frs X.outer

def Vis (sc : Scope) (x : Str) : Prop := sc.names.lookup x = some .local ∨ sc.names.lookup x = some .cell ∨ sc.names.lookup x = some .free
def Loc (sc : Scope) (x : Str) : Prop := sc.names.lookup x = some .local ∨ sc.names.lookup x = some .cell
def Look (env : Env) (h : Heap) (m : Str → Option Value) (x : Str) (u : Value) : Prop :=
  (env.kindOf x = some .local ∧ m x = some u) ∨ ((env.kindOf x = some .cell ∨ env.kindOf x = some .free) ∧ ∃ c, env.cells.lookup x = some c ∧ h.IsCell c (some u))

structure Cx.Ok (X : Cx) : Prop where
  mod : Mod X.K X.mg X.base
  kind : X.env.scope.kind = .function
  glob : X.env.globals = mainGlobals
  blt : X.env.builtins = builtinsNs
  above : X.s₀.heap.objs.size ≤ X.env.locals
  inj : ∀ x y c, X.env.cells.lookup x = some c → X.env.cells.lookup y = some c → x = y
  has : ∀ x, (X.env.kindOf x = some .cell ∨ X.env.kindOf x = some .free) → ∃ c, X.env.cells.lookup x = some c
  cab : ∀ x c, X.fn x = true → X.env.cells.lookup x = some c → X.s₀.heap.objs.size ≤ c
  hd : X.calm = true → X.A.handled = none
  frames : X.A.frames = some X.stack
  stk : X.stack = X.outer ∨ (X.stack = X.env :: X.outer ∧ X.env.frame = some X.env.locals)
  exf : ∀ b ∈ X.ex, b ≠ X.env.locals ∧ ∀ x c, X.env.cells.lookup x = some c → c ≠ b
  bs : ∀ b o, X.base.get? b = some o → X.s₀.heap.get? b = some o ∧ X.H₀ b = none
  bsz : X.base.objs.size ≤ X.s₀.heap.objs.size
  noex : ∀ b o, X.base.get? b = some o → b ∉ X.ex
  exfs : ∀ b ∈ X.ex, b ∉ X.fs
  funs : X.s₀.heap.FunFrames X.base X.outer
  frf : ∀ b ∈ X.fs, X.H₀ b = none

structure Inv (X : Cx) (pins : List (Addr × Obj)) (σ : List (Option V)) (H : Hp) (s : Shared) : Prop where
  ok : X.Ok
  os : s.os = X.s₀.os
  bare : AllBare s.gens
  base : Un X.fs X.ex X.H₀ H X.s₀.heap s.heap
  loc : ∃ m, s.heap.Ns X.env.locals m ∧ ∀ (i : Nat) (x : Str) (v : V), X.N[i]? = some x → σ[i]? = some (some v) → Vis X.env.scope x → ∃ u, RelV v u ∧ Look X.env s.heap m x u
  cell : ∀ x c, X.env.cells.lookup x = some c → ∃ v, s.heap.IsCell c v
  free : H X.env.locals = none
  freeC : ∀ x c, X.env.cells.lookup x = some c → H c = none
  pin : ∀ p ∈ X.pn ++ pins, s.heap.get? p.1 = some p.2 ∧ H p.1 = none ∧ p.1 ≠ X.env.locals ∧ p.1 ∉ X.fs ∧ ∀ v, p.2.data ≠ .cell v
  hok : HOk X.prog X.w H s.heap
  len : σ.length = X.N.length

section
variable {X : Cx} {pins : List (Addr × Obj)} {σ : List (Option V)} {H H' : Hp} {s : Shared} {h' : Heap}

theorem Cx.Ok.nofr (ok : X.Ok) {b : Addr} {o : Obj} (e : X.base.get? b = some o) : b ∉ X.fs := fun hb => by
  have := (ok.funs.mem hb).1
  rw [e] at this; cases this
theorem Inv.bs (I : Inv X pins σ H s) : ∀ b o, X.base.get? b = some o → s.heap.get? b = some o ∧ H b = none := fun b o e =>
  ⟨I.base.keep b o (I.ok.bs b o e).1 (I.ok.bs b o e).2 (I.ok.nofr e) (I.ok.noex b o e), I.base.free b o (I.ok.bs b o e).1 (I.ok.bs b o e).2 (I.ok.noex b o e)⟩
theorem Inv.bk (I : Inv X pins σ H s) : ∀ b o, X.base.get? b = some o → s.heap.get? b = some o := fun b o e => (I.bs b o e).1
theorem Inv.mod (I : Inv X pins σ H s) : Mod X.K X.mg X.base := I.ok.mod
theorem Inv.kIn (I : Inv X pins σ H s) : X.K.In s.heap := I.ok.mod.kin.keeps I.bk
theorem Inv.lt (I : Inv X pins σ H s) : X.env.locals < s.heap.objs.size := let ⟨_, hn, _⟩ := I.loc; hn.lt
theorem Inv.sz (I : Inv X pins σ H s) : X.s₀.heap.objs.size ≤ s.heap.objs.size := Nat.le_trans I.ok.above (Nat.le_of_lt I.lt)
theorem Inv.nofs (I : Inv X pins σ H s) {a : Addr} (h : s.heap.objs.size ≤ a) : a ∉ X.fs := fun hb => by
  obtain ⟨_, o, ho, _⟩ := I.ok.funs.mem hb
  exact absurd (Nat.lt_of_lt_of_le (Heap.lt_size ho) (Nat.le_trans I.sz h)) (Nat.lt_irrefl _)
theorem Inv.cne (I : Inv X pins σ H s) : ∀ x c, X.env.cells.lookup x = some c → c ≠ X.env.locals := fun x c e z => by
  obtain ⟨v, o, ho, hd⟩ := I.cell x c e
  obtain ⟨m, ⟨o', es, ep, ho', hd', _⟩, _⟩ := I.loc
  rw [z, ho'] at ho; cases ho; rw [hd'] at hd; cases hd
theorem Inv.funs (I : Inv X pins σ H s) : s.heap.FunFrames X.base X.outer := by
  have all : ∀ (l : List Env), (∀ b ∈ frs l, b ∈ X.fs) → X.s₀.heap.FunFrames X.base l → s.heap.FunFrames X.base l := by
    intro l
    induction l with
    | nil => intro _ _; trivial
    | cons env r ih =>
      intro hs hl
      obtain ⟨hk, ⟨L, o, hf, hn, ho, hd⟩, hr⟩ := hl
      have hL : L ∈ X.fs := hs L (by unfold frs; rw [List.filterMap_cons, hf]; exact List.mem_cons_self)
      obtain ⟨sl, e⟩ := I.base.slot L o ho (I.ok.frf L hL) hL fun z => I.ok.exfs L z hL
      exact ⟨hk, ⟨L, _, hf, hn, e, hd⟩, ih (fun b hb => hs b (by unfold frs; rw [List.filterMap_cons, hf]; exact List.mem_cons_of_mem _ hb)) hr⟩
  exact all X.outer (fun _ hb => hb) I.ok.funs

/-- the frames that run, for a call -/
theorem Inv.stack (I : Inv X pins σ H s) : s.heap.FunFrames X.base X.stack := by
  rcases I.ok.stk with e | ⟨e, hf⟩
  · rw [e]; exact I.funs
  · rw [e]
    obtain ⟨m, hn, _⟩ := I.loc
    refine .cons (by rw [I.ok.kind]; decide) hf hn ?_ I.funs
    exact Heap.get?_none_of_le (Nat.le_trans I.ok.bsz I.ok.above)
theorem Inv.stkSub (I : Inv X pins σ H s) : ∀ b ∈ frs X.stack, b ∈ X.env.locals :: X.fs := fun b hb => by
  rcases I.ok.stk with e | ⟨e, hf⟩
  · rw [e] at hb; exact List.mem_cons_of_mem _ hb
  · rw [e] at hb
    unfold frs at hb
    rw [List.filterMap_cons, hf] at hb
    exact hb
theorem Inv.stkFree (I : Inv X pins σ H s) : ∀ b ∈ frs X.stack, H b = none := fun b hb => by
  rcases List.mem_cons.mp (I.stkSub b hb) with e | hb
  · rw [e]; exact I.free
  · obtain ⟨_, o, ho, _⟩ := I.ok.funs.mem hb
    exact I.base.free b o ho (I.ok.frf b hb) fun z => I.ok.exfs b z hb

/-- THE STEP: the untracked objects but the frame and the records at ch are kept (the callers' frames up to slots), the frame's map is kept, the new abstract heap is held -/
theorem Inv.step {g' : Array GenState} {t' : Nat} {d' : Drawn} {ch : List Addr} (I : Inv X pins σ H s)
    (hch : ∀ b ∈ ch, (b ∈ X.ex ∨ X.s₀.heap.objs.size ≤ b) ∧ b ≠ X.env.locals ∧ (∀ x c, X.env.cells.lookup x = some c → c ≠ b) ∧ ∀ p ∈ X.pn ++ pins, p.1 ≠ b)
    (keep : ∀ b o, b ≠ X.env.locals → b ∉ X.fs → b ∉ ch → s.heap.get? b = some o → H b = none → h'.get? b = some o)
    (slot : ∀ b o, b ≠ X.env.locals → b ∈ X.fs → b ∉ ch → s.heap.get? b = some o → H b = none → ∃ sl, h'.get? b = some { o with slots := sl }) (free : ∀ b o, b ∉ ch → s.heap.get? b = some o → H b = none → H' b = none)
    (there : ∀ b o, b ∉ ch → s.heap.get? b = some o → ∃ o', h'.get? b = some o')
    (tups : ∀ b xs, H b = some (.tup xs) → H' b = some (.tup xs)) (frzs : ∀ b o u, H b = some (.frz o u) → H' b = some (.frz o u)) (tbls : ∀ b ps, H b = some (.tbl ps) → ∃ more, H' b = some (.tbl (ps ++ more)))
    (ns : ∀ m, s.heap.Ns X.env.locals m → h'.Ns X.env.locals m) (hok : HOk X.prog X.w H' h') (hg : AllBare g') :
    Inv X pins σ H' { s with heap := h', gens := g', drawn := d', toks := t' } := by
  have neL : ∀ b o, X.s₀.heap.get? b = some o → b ≠ X.env.locals := fun b o e => Nat.ne_of_lt (Nat.lt_of_lt_of_le (Heap.lt_size e) I.ok.above)
  have neC : ∀ b o, X.s₀.heap.get? b = some o → b ∉ X.ex → b ∉ ch := fun b o e hx hb => by
    rcases (hch b hb).1 with z | z
    · exact hx z
    · exact absurd (Nat.lt_of_lt_of_le (Heap.lt_size e) z) (Nat.lt_irrefl _)
  have cellK : ∀ x c, X.env.cells.lookup x = some c → ∀ v, s.heap.IsCell c v → h'.IsCell c v := fun x c e v ⟨o, ho, hd⟩ => by
    have nch : c ∉ ch := fun z => (hch c z).2.2.1 x c e rfl
    by_cases hc : c ∈ X.fs
    · obtain ⟨sl, q⟩ := slot c o (I.cne x c e) hc nch ho (I.freeC x c e)
      exact ⟨_, q, hd⟩
    · exact ⟨o, keep c o (I.cne x c e) hc nch ho (I.freeC x c e), hd⟩
  refine ⟨I.ok, I.os, hg, ⟨fun b o e n hb hx => ?_, fun b o e n hb hx => ?_, fun b o e n hx => ?_, fun b o e hx => ?_, fun b xs e => tups b xs (I.base.tups b xs e), fun b o xs e => frzs b o xs (I.base.frzs b o xs e), fun b ps e => ?_⟩, ?_, fun x c e => ?_, ?_, fun x c e => ?_, fun p hp => ?_, hok, I.len⟩
  · exact keep b o (neL b o e) hb (neC b o e hx) (I.base.keep b o e n hb hx) (I.base.free b o e n hx)
  · obtain ⟨sl, e1⟩ := I.base.slot b o e n hb hx
    obtain ⟨sl', e2⟩ := slot b _ (neL b o e) hb (neC b o e hx) e1 (I.base.free b o e n hx)
    exact ⟨sl', e2⟩
  · obtain ⟨o', e1⟩ := I.base.there b o e hx
    exact free b o' (neC b o e hx) e1 (I.base.free b o e n hx)
  · obtain ⟨o', e1⟩ := I.base.there b o e hx
    exact there b o' (neC b o e hx) e1
  · obtain ⟨m1, e1⟩ := I.base.tbls b ps e
    obtain ⟨m2, e2⟩ := tbls b _ e1
    exact ⟨m1 ++ m2, by rw [e2, Array.append_assoc]⟩
  · obtain ⟨m, hn, hl⟩ := I.loc
    refine ⟨m, ns m hn, fun i x v e1 e2 e3 => ?_⟩
    obtain ⟨u, r, l⟩ := hl i x v e1 e2 e3
    refine ⟨u, r, ?_⟩
    rcases l with l | ⟨k, c, e, z⟩
    · exact .inl l
    · exact .inr ⟨k, c, e, cellK x c e _ z⟩
  · obtain ⟨v, z⟩ := I.cell x c e
    exact ⟨v, cellK x c e v z⟩
  · obtain ⟨m, ⟨o, _, _, ho, _⟩, _⟩ := I.loc
    exact free _ o (fun z => (hch _ z).2.1 rfl) ho I.free
  · obtain ⟨v, o, ho, hd⟩ := I.cell x c e
    exact free c o (fun z => (hch c z).2.2.1 x c e rfl) ho (I.freeC x c e)
  · obtain ⟨e, n, ne, nf, d⟩ := I.pin p hp
    have nch : p.1 ∉ ch := fun z => (hch p.1 z).2.2.2 p hp rfl
    exact ⟨keep p.1 p.2 ne nf nch e n, free p.1 p.2 nch e n, ne, nf, d⟩
/-- .. where the frame's own object is kept too -/
theorem Inv.un {t' : Nat} (I : Inv X pins σ H s) (u : Un X.fs [] H H' s.heap h') (hok : HOk X.prog X.w H' h') : Inv X pins σ H' { s with heap := h', toks := t' } := by
  obtain ⟨m, ⟨o, es, ep, ho, r⟩, _⟩ := id I.loc
  obtain ⟨sl, hL⟩ := u.any ho I.free (by simp)
  exact I.step (g' := s.gens) (d' := s.drawn) (ch := []) (fun _ z => nomatch z) (fun b o _ hb _ e n => u.keep b o e n hb (by simp)) (fun b o _ hb _ e n => u.slot b o e n hb (by simp)) (fun b o _ e n => u.free b o e n (by simp)) (fun b o _ e => u.there b o e (by simp)) u.tups u.frzs u.tbls (fun m' hm => by
    obtain ⟨o', es', ep', ho', r'⟩ := hm
    rw [ho] at ho'; cases ho'
    exact ⟨_, es', ep', hL, r'⟩) hok I.bare
/-- behind a call (or a comprehension's block): the slots of this frame may have changed too, the records at ch may have turned -/
theorem Inv.call {g' : Array GenState} {t' : Nat} {d' : Drawn} {ch : List Addr} (I : Inv X pins σ H s) (u : Un (frs X.stack) ch H H' s.heap h') (hok : HOk X.prog X.w H' h') (hg : AllBare g')
    (hch : ∀ b ∈ ch, (b ∈ X.ex ∨ X.s₀.heap.objs.size ≤ b) ∧ b ≠ X.env.locals ∧ (∀ x c, X.env.cells.lookup x = some c → c ≠ b) ∧ ∀ p ∈ X.pn ++ pins, p.1 ≠ b) :
    Inv X pins σ H' { s with heap := h', gens := g', drawn := d', toks := t' } := by
  obtain ⟨m, ⟨o, es, ep, ho, r⟩, _⟩ := id I.loc
  obtain ⟨sl, hL⟩ := u.any ho I.free fun z => (hch _ z).2.1 rfl
  exact I.step (ch := ch) hch (fun b o hL hb hc e n => u.keep b o e n (fun z => (List.mem_cons.mp (I.stkSub b z)).elim hL hb) hc) (fun b o _ _ hc e n => u.any e n hc) (fun b o hc e n => u.free b o e n hc) (fun b o hc e => u.there b o e hc) u.tups u.frzs u.tbls (fun m' hm => by
    obtain ⟨o', es', ep', ho', r'⟩ := hm
    rw [ho] at ho'; cases ho'
    exact ⟨_, es', ep', hL, r'⟩) hok hg
/-- an untracked record of ours (an iterator) has turned -/
theorem Inv.turned {t' : Nat} {it : Addr} (I : Inv X pins σ H s) (k : ∀ b o, b ≠ it → s.heap.get? b = some o → h'.get? b = some o) (hn : H it = none) (hL : it ≠ X.env.locals)
    (h1 : it ∈ X.ex ∨ X.s₀.heap.objs.size ≤ it) (h2 : ∀ x c, X.env.cells.lookup x = some c → c ≠ it) (h3 : ∀ p ∈ X.pn ++ pins, p.1 ≠ it) : Inv X pins σ H { s with heap := h', toks := t' } := by
  have nit : ∀ b u, H b = some u → b ≠ it := fun b u e z => by rw [z, hn] at e; cases e
  refine I.step (g' := s.gens) (d' := s.drawn) (ch := [it]) (fun b hb => ?_) (fun b o _ _ hc e _ => k b o (fun z => hc (by simp [z])) e) (fun b o _ _ hc e _ => ⟨o.slots, k b o (fun z => hc (by simp [z])) e⟩) (fun _ _ _ _ n => n)
    (fun b o hc e => ⟨o, k b o (fun z => hc (by simp [z])) e⟩) (fun _ _ e => e) (fun _ _ _ e => e) (fun b ps e => ⟨#[], by rw [e]; simp⟩) (fun m hm => ?_) (fun b u e => ?_) I.bare
  · have e : b = it := by simpa using hb
    subst e
    exact ⟨h1, hL, h2, h3⟩
  · obtain ⟨o, es, ep, ho, r⟩ := hm
    exact ⟨o, es, ep, k _ o (Ne.symm hL) ho, r⟩
  · refine (I.hok b u e).stay (fun c v hc q => k c v ?_ q) (fun _ q => q) fun _ _ q => q
    rcases hc with z | z
    · rw [z]; exact nit b u e
    · exact nit c _ z
theorem Inv.tok (I : Inv X pins σ H s) (t : Nat) : Inv X pins σ H { s with toks := t } := I.un (h' := s.heap) (t' := t) Un.refl I.hok
/-- all objects kept -/
theorem Inv.kept {t' : Nat} (I : Inv X pins σ H s) (k : ∀ b u, s.heap.get? b = some u → h'.get? b = some u) : Inv X pins σ H { s with heap := h', toks := t' } := I.un (Un.kept k) (I.hok.kept k)
/-- a new object laid and tracked -/
theorem Inv.laid {a : Addr} {o : HO} {t' : Nat} (I : Inv X pins σ H s) (k : ∀ b u, s.heap.get? b = some u → h'.get? b = some u) (hp : s.heap.objs.size ≤ a) (new : ObjOk X.prog X.w (upd H a o) h' a o) :
    Inv X pins σ (upd H a o) { s with heap := h', toks := t' } := I.un (Un.laid k hp (I.hok.fresh hp)) (I.hok.laid k hp new)
/-- an object written -/
theorem Inv.write {x e : Addr} {o : HO} {t' : Nat} (I : Inv X pins σ H s) (mu : Mut (H x)) (he : e = x ∨ H e = some (.own x)) (k : ∀ b u, b ≠ e → s.heap.get? b = some u → h'.get? b = some u) (heo : ∃ u, h'.get? e = some u)
    (new : ObjOk X.prog X.w (upd H x o) h' x o) : Inv X pins σ (upd H x o) { s with heap := h', toks := t' } := I.un (Un.write mu he k heo) (I.hok.write mu he k heo new)
theorem Inv.pins_of {pins' : List (Addr × Obj)} (I : Inv X pins σ H s) (h : ∀ p ∈ pins', s.heap.get? p.1 = some p.2 ∧ H p.1 = none ∧ p.1 ≠ X.env.locals ∧ p.1 ∉ X.fs ∧ ∀ v, p.2.data ≠ .cell v) : Inv X pins' σ H s :=
  ⟨I.ok, I.os, I.bare, I.base, I.loc, I.cell, I.free, I.freeC, fun p hp => (List.mem_append.mp hp).elim (fun z => I.pin p (List.mem_append_left _ z)) (h p), I.hok, I.len⟩

theorem nodup_ix {N : List Str} (hN : N.Nodup) {i j : Nat} {x : Str} (a : N[i]? = some x) (b : N[j]? = some x) : i = j := by
  obtain ⟨h1, e1⟩ := List.getElem?_eq_some_iff.mp a
  obtain ⟨h2, e2⟩ := List.getElem?_eq_some_iff.mp b
  exact (List.getElem_inj hN).mp (e1.trans e2.symm)

/-- a name is stored; what changed -/
theorem store_ok2 {M : Model} {A : Around} {E : Value → Shared → Prop} {i : Nat} {x : Str} {v : V} {u : Value} {Q : Unit → Shared → Prop} (I : Inv X pins σ H s) (hN : X.N.Nodup) (hi : X.N[i]? = some x) (hx : Loc X.env.scope x) (r : RelV v u)
    (h : ∀ s', Inv X pins (σ.set i (some v)) H s' → (∃ a, Heap.SameBut a s.heap s'.heap ∧ (a = X.env.locals ∨ X.env.cells.lookup x = some a)) → Q () s') (hf : X.fn x = true ∨ X.env.scope.names.lookup x = some .local := by first | exact .inl rfl | exact .inr rfl | assumption) : wpAny M A (storeName X.env x u) Q E s := by
  obtain ⟨m, hn, hl⟩ := id I.loc
  have hcls : (X.env.scope.kind == .class || (X.env.scope.kind == .module && X.env.locals != X.env.globals)) = false := by rw [I.ok.kind]; rfl
  have hiσ : i < σ.length := by rw [I.len]; exact (List.getElem?_eq_some_iff.mp hi).1
  have cne := I.cne
  have tracked : ∀ {a : Addr} {h' : Heap}, (∃ o, s.heap.get? a = some o ∧ H a = none) → Heap.SameBut a s.heap h' → HOk X.prog X.w H h' := fun {a h'} ha hs b ob e => by
    obtain ⟨_, _, hfree⟩ := ha
    refine (I.hok b ob e).stay (fun c w' hc q => (hs.2 c ?_).trans q) (fun _ q => q) fun _ _ q => q
    rintro rfl
    rcases hc with rfl | hc
    · rw [hfree] at e; cases e
    · rw [hfree] at hc; cases hc
  rcases hx with hk | hk
  · refine wpAny_storeName_local hk hn (fun h' hn' hs => ?_) hcls
    obtain ⟨oL, _, _, hoL, _⟩ := id hn
    refine h _ ⟨I.ok, I.os, I.bare, ⟨fun b o e n hb hx => ?_, fun b o e n hb hx => ?_, I.base.free, fun b o e hx => ?_, I.base.tups, I.base.frzs, I.base.tbls⟩, ⟨_, hn', fun j y v' e1 e2 e3 => ?_⟩, fun y c e => ?_, I.free, I.freeC, fun p hp => ?_, tracked ⟨oL, hoL, I.free⟩ hs, by simpa using I.len⟩ ⟨_, hs, .inl rfl⟩
    · exact (hs.2 b (Nat.ne_of_lt (Nat.lt_of_lt_of_le (Heap.lt_size e) I.ok.above))).trans (I.base.keep b o e n hb hx)
    · obtain ⟨sl, e1⟩ := I.base.slot b o e n hb hx
      exact ⟨sl, (hs.2 b (Nat.ne_of_lt (Nat.lt_of_lt_of_le (Heap.lt_size e) I.ok.above))).trans e1⟩
    · obtain ⟨o', e1⟩ := I.base.there b o e hx
      exact ⟨o', (hs.2 b (Nat.ne_of_lt (Nat.lt_of_lt_of_le (Heap.lt_size e) I.ok.above))).trans e1⟩
    · by_cases hj : j = i
      · subst hj
        rw [hi] at e1; cases e1
        rw [List.getElem?_set_self hiσ] at e2
        cases e2
        exact ⟨u, r, .inl ⟨hk, by simp⟩⟩
      · rw [List.getElem?_set_ne (Ne.symm hj)] at e2
        obtain ⟨u', r', q⟩ := hl j y v' e1 e2 e3
        refine ⟨u', r', ?_⟩
        rcases q with ⟨k, e⟩ | ⟨k, c, e, z⟩
        · refine .inl ⟨k, ?_⟩
          have : y ≠ x := fun e => hj (nodup_ix hN e1 (e ▸ hi))
          simp [this, e]
        · exact .inr ⟨k, c, e, z.sameBut hs (cne y c e)⟩
    · obtain ⟨w', z⟩ := I.cell y c e
      exact ⟨w', z.sameBut hs (cne y c e)⟩
    · obtain ⟨e, n, ne, nf, d⟩ := I.pin p hp
      exact ⟨(hs.2 p.1 ne).trans e, n, ne, nf, d⟩
  · have hfn : X.fn x = true := by
      rcases hf with z | z
      · exact z
      · rw [z] at hk; cases hk
    obtain ⟨c, hc⟩ := I.ok.has x (.inl hk)
    obtain ⟨w', z⟩ := I.cell x c hc
    refine wpAny_storeName_cell I.ok.kind hk hc z (fun h' hc' hs => ?_)
    obtain ⟨oc, hoc, hocd⟩ := id z
    refine h { s with heap := h' } ⟨I.ok, I.os, I.bare, ⟨fun b o e n hb hx => ?_, fun b o e n hb hx => ?_, I.base.free, fun b o e hx => ?_, I.base.tups, I.base.frzs, I.base.tbls⟩, ⟨m, hn.sameBut hs (Ne.symm (cne x c hc)), fun j y v' e1 e2 e3 => ?_⟩, fun y c' e => ?_, I.free, I.freeC, fun p hp => ?_, tracked ⟨oc, hoc, I.freeC x c hc⟩ hs, by simpa using I.len⟩ ⟨c, hs, .inr hc⟩
    · exact (hs.2 b (Nat.ne_of_lt (Nat.lt_of_lt_of_le (Heap.lt_size e) (I.ok.cab x c hfn hc)))).trans (I.base.keep b o e n hb hx)
    · obtain ⟨sl, e1⟩ := I.base.slot b o e n hb hx
      exact ⟨sl, (hs.2 b (Nat.ne_of_lt (Nat.lt_of_lt_of_le (Heap.lt_size e) (I.ok.cab x c hfn hc)))).trans e1⟩
    · obtain ⟨o', e1⟩ := I.base.there b o e hx
      exact ⟨o', (hs.2 b (Nat.ne_of_lt (Nat.lt_of_lt_of_le (Heap.lt_size e) (I.ok.cab x c hfn hc)))).trans e1⟩
    · by_cases hj : j = i
      · subst hj
        rw [hi] at e1; cases e1
        rw [List.getElem?_set_self hiσ] at e2
        cases e2
        exact ⟨u, r, .inr ⟨.inl hk, c, hc, hc'⟩⟩
      · rw [List.getElem?_set_ne (Ne.symm hj)] at e2
        obtain ⟨u', r', q⟩ := hl j y v' e1 e2 e3
        refine ⟨u', r', ?_⟩
        rcases q with q | ⟨k, c', e, z'⟩
        · exact .inl q
        · refine .inr ⟨k, c', e, z'.sameBut hs ?_⟩
          rintro rfl
          exact hj (nodup_ix hN e1 (I.ok.inj _ _ _ e hc ▸ hi))
    · by_cases hcc : c' = c
      · subst hcc; exact ⟨_, hc'⟩
      · obtain ⟨w2, z2⟩ := I.cell y c' e
        exact ⟨w2, z2.sameBut hs hcc⟩
    · obtain ⟨e, n, ne, nf, d⟩ := I.pin p hp
      refine ⟨(hs.2 p.1 ?_).trans e, n, ne, nf, d⟩
      intro q
      rw [q, hoc] at e
      have q' : oc = p.2 := Option.some.inj e
      exact d w' (by rw [← q']; exact hocd)
theorem store_ok {M : Model} {A : Around} {E : Value → Shared → Prop} {i : Nat} {x : Str} {v : V} {u : Value} {Q : Unit → Shared → Prop} (I : Inv X pins σ H s) (hN : X.N.Nodup) (hi : X.N[i]? = some x) (hx : Loc X.env.scope x) (r : RelV v u)
    (h : ∀ s', Inv X pins (σ.set i (some v)) H s' → Q () s') (hf : X.fn x = true ∨ X.env.scope.names.lookup x = some .local := by first | exact .inl rfl | exact .inr rfl | assumption) : wpAny M A (storeName X.env x u) Q E s :=
  store_ok2 I hN hi hx r (fun s' I' _ => h s' I') hf
/-- behind a call or a block, the state as it is -/
theorem Inv.call' {s' : Shared} {ch : List Addr} (I : Inv X pins σ H s) (ho : s'.os = s.os) (u : Un (frs X.stack) ch H H' s.heap s'.heap) (hok : HOk X.prog X.w H' s'.heap) (hg : AllBare s'.gens)
    (hch : ∀ b ∈ ch, (b ∈ X.ex ∨ X.s₀.heap.objs.size ≤ b) ∧ b ≠ X.env.locals ∧ (∀ x c, X.env.cells.lookup x = some c → c ≠ b) ∧ ∀ p ∈ X.pn ++ pins, p.1 ≠ b) : Inv X pins σ H' s' := by
  obtain ⟨h', g', d', t', o'⟩ := s'
  have e : o' = s.os := ho
  subst e
  exact I.call (g' := g') (t' := t') (d' := d') u hok hg hch
end

/-! ### the judgements -/
/-- an exception: its class, its own dict's address (where it has one), the abstract heap behind it -/
abbrev XK := Value → Option Addr → Hp → Prop
abbrev St := List (Option V)
abbrev VK := V → Hp → Prop
/-- an expression's reading; a test's; an argument list's -/
abbrev TE := St → Hp → VK → Prop
abbrev TT := St → Hp → (Bool → Hp → Prop) → Prop
abbrev TA := St → Hp → (List V → Hp → Prop) → Prop
/-- what is wanted behind a statement -/
structure Ends where
  nx : St → Hp → Prop
  rt : VK
  bk : St → Hp → Prop := fun _ _ => False
  ct : St → Hp → Prop := fun _ _ => False
abbrev TS := Ends → St → Hp → Prop

def EP (X : Cx) (pins : List (Addr × Obj)) (σ : St) (Q : VK) (u : Value) (s' : Shared) : Prop := ∃ v H', Inv X pins σ H' s' ∧ RelV v u ∧ Q v H'
def TP (X : Cx) (pins : List (Addr × Obj)) (σ : St) (Q : Bool → Hp → Prop) (b : Bool) (s' : Shared) : Prop := ∃ H', Inv X pins σ H' s' ∧ Q b H'
def AP (X : Cx) (pins : List (Addr × Obj)) (σ : St) (Q : List V → Hp → Prop) (us : List Value) (s' : Shared) : Prop := ∃ vs H', Inv X pins σ H' s' ∧ Vals vs us ∧ Q vs H'
def SP (X : Cx) (pins : List (Addr × Obj)) (D : Ends) (f : Flow) (s' : Shared) : Prop :=
  match f with
  | .next => ∃ σ' H', Inv X pins σ' H' s' ∧ D.nx σ' H'
  | .brk => ∃ σ' H', Inv X pins σ' H' s' ∧ D.bk σ' H'
  | .cont => ∃ σ' H', Inv X pins σ' H' s' ∧ D.ct σ' H'
  | .ret u => ∃ v σ' H', Inv X pins σ' H' s' ∧ RelV v u ∧ D.rt v H'

def PE (X : Cx) (e : Expr) (t : TE) : Prop :=
  ∀ (pins : List (Addr × Obj)) (s : Shared) (σ : St) (H : Hp) (Q : VK), Inv X pins σ H s → t σ H Q → wpAny (model X.prog X.w) X.A (eval e X.env) (EP X pins σ Q) X.xe s
def PT (X : Cx) (e : Expr) (t : TT) : Prop :=
  ∀ (pins : List (Addr × Obj)) (s : Shared) (σ : St) (H : Hp) (Q : Bool → Hp → Prop), Inv X pins σ H s → t σ H Q → wpAny (model X.prog X.w) X.A (isTrue e X.env (eval e X.env)) (TP X pins σ Q) X.xe s
/-- a test whatever its 'whole' is (and, or) -/
def PW (X : Cx) (e : Expr) (t : TT) : Prop :=
  ∀ (whole : Sem Value) (pins : List (Addr × Obj)) (s : Shared) (σ : St) (H : Hp) (Q : Bool → Hp → Prop), Inv X pins σ H s → t σ H Q → wpAny (model X.prog X.w) X.A (isTrue e X.env whole) (TP X pins σ Q) X.xe s
theorem PW.pt {X : Cx} {e : Expr} {t : TT} (h : PW X e t) : PT X e t := h _
/-- an argument list (no star), from the left -/
def PA (X : Cx) (es : List Expr) (t : TA) : Prop :=
  ∀ (pos : Pos) (pins : List (Addr × Obj)) (s : Shared) (σ : St) (H : Hp) (Q : List V → Hp → Prop), Inv X pins σ H s → t σ H Q → wpAny (model X.prog X.w) X.A (spliced (backTo pos (starEach es X.env))) (AP X pins σ Q) X.xe s
def PS (X : Cx) (st : Stmt) (t : TS) : Prop :=
  ∀ (pins : List (Addr × Obj)) (s : Shared) (σ : St) (H : Hp) (D : Ends), Inv X pins σ H s → t D σ H → wpAny (model X.prog X.w) X.A (exec st X.env) (SP X pins D) X.xe s
def PSs (X : Cx) (st : List Stmt) (t : TS) : Prop :=
  ∀ (pins : List (Addr × Obj)) (s : Shared) (σ : St) (H : Hp) (D : Ends), Inv X pins σ H s → t D σ H → wpAny (model X.prog X.w) X.A (execs st X.env) (SP X pins D) X.xe s
/-- weaken the end -/
theorem thn {α : Type} {t : Sem α} {Q Q' : α → Shared → Prop} {M : Model} {A : Around} {E : Value → Shared → Prop} {s : Shared} (h : wpAny M A t Q E s) (hQ : ∀ a s, Q a s → Q' a s) : wpAny M A t Q' E s := wpAny_mono h hQ fun _ _ x => x
end L2

namespace L2
open PySem PySem.Spec PyProof.Rows
section
variable {X : Cx}

/-! ### names and constants -/
def tVar (i : Nat) : TE := fun σ H Q => ∃ v, σ[i]? = some (some v) ∧ Q v H
def tC (v : V) : TE := fun _ H Q => Q v H
theorem pe_var {i : Nat} {x : Str} {pos : Pos} (hN : X.N[i]? = some x) (hv : Vis X.env.scope x) (hd : (x == ("__debug__" : Str)) = false := by decide) (hcd : (x == ("__classdict__" : Str)) = false := by decide) : PE X (.Name x pos) (tVar i) := by
  intro pins s σ H Q I h
  obtain ⟨v, e, h⟩ := h
  obtain ⟨m, hn, hl⟩ := I.loc
  obtain ⟨u, r, l⟩ := hl i x v hN e hv
  have fin : EP X pins σ Q u s := ⟨v, H, I, r, h⟩
  rcases l with ⟨hk, hm⟩ | ⟨hk, c, hc, hcell⟩
  · exact wpAny_Name (wpAny_loadName_local I.ok.kind hk hn hm fin) hd
  · rcases hk with hk | hk
    · exact wpAny_Name (wpAny_loadName_cell I.ok.kind hk hc hcell fin) hd
    · exact wpAny_Name (wpAny_loadName_free I.ok.kind hk hc hcell fin hcd) hd
theorem pe_int {i j pos} : PE X (.Constant (.int i) j pos) (tC (.int i)) := fun _ _ _ H _ I h => wpAny_Constant_int ⟨.int i, H, I.tok _, ⟨_, rfl⟩, h⟩
theorem pe_bl {b j pos} : PE X (.Constant (.bool b) j pos) (tC (.bl b)) := fun _ _ _ H _ I h => Constant_bool ⟨.bl b, H, I, rfl, h⟩
theorem pe_non {j pos} : PE X (.Constant .none j pos) (tC .non) := fun _ _ _ H _ I h => Constant_none ⟨.non, H, I, rfl, h⟩
theorem pe_str {x j pos} : PE X (.Constant (.str x) j pos) (tC (.str x)) := fun _ _ _ H _ I h => Calls.Constant_str ⟨.str x, H, I.tok _, ⟨_, rfl⟩, h⟩

/-- a global name of the def -/
def Gl (X : Cx) (x : Str) : Prop := X.env.kindOf x = some .globalImplicit
theorem ld_glob {E : Value → Shared → Prop} {pins : List (Addr × Obj)} {s : Shared} {σ : St} {H : Hp} {x : Str} {u : Value} {pos : Pos} {Q : Value → Shared → Prop} (I : Inv X pins σ H s) (hg : Gl X x) (hm : X.mg x = some u) (h : Q u s)
    (hd : (x == ("__debug__" : Str)) = false := by decide) : wpAny (model X.prog X.w) X.A (eval (.Name x pos) X.env) Q E s :=
  Calls.Name_function_global I.ok.kind hg (Calls.loadGlobal_global (by rw [I.ok.glob]; exact I.mod.glob.keeps I.bk) hm h) hd
theorem ld_blt {E : Value → Shared → Prop} {pins : List (Addr × Obj)} {s : Shared} {σ : St} {H : Hp} {x : Str} {u : Value} {pos : Pos} {Q : Value → Shared → Prop} (I : Inv X pins σ H s) (hg : Gl X x) (hm : X.mg x = none) (hv : bootBuiltins x = some u) (h : Q u s)
    (hn : x ≠ "__name__" := by decide) (hd : (x == ("__debug__" : Str)) = false := by decide) : wpAny (model X.prog X.w) X.A (eval (.Name x pos) X.env) Q E s := by
  obtain ⟨mb, h1, h2⟩ := I.mod.blt
  exact Calls.Name_function_global I.ok.kind hg (Calls.loadGlobal_builtin (by rw [I.ok.glob]; exact I.mod.glob.keeps I.bk) hm (by rw [I.ok.blt]; exact h1.keeps I.bk) ((h2 x hn).trans hv) h) hd
/-- a module's constant, a class, a function, as a value -/
theorem pe_glob {x : Str} {v : V} {u : Value} {pos : Pos} (hg : Gl X x) (hm : X.mg x = some u) (r : RelV v u) (hd : (x == ("__debug__" : Str)) = false := by decide) : PE X (.Name x pos) (tC v) :=
  fun _ _ _ H _ I h => ld_glob I hg hm ⟨v, H, I, r, h⟩ hd
theorem pe_bltn {x : Str} {v : V} {u : Value} {pos : Pos} (hg : Gl X x) (hm : X.mg x = none) (hv : bootBuiltins x = some u) (r : RelV v u) (hn : x ≠ "__name__" := by decide) (hd : (x == ("__debug__" : Str)) = false := by decide) : PE X (.Name x pos) (tC v) :=
  fun _ _ _ H _ I h => ld_blt I hg hm hv ⟨v, H, I, r, h⟩ hn hd

/-! ### arithmetic -/
variable {a b : Expr} {ta tb : TE} {pos : Pos}
/-! ### comparisons -/
/-- a comparison as a value, as a test -/
def tB (t : TE) : TT := fun σ H Q => t σ H fun x H1 => ∃ c, x = .bl c ∧ Q c H1
/-- an expression whose value is a bool, as a test -/
theorem pt_val {e : Expr} {t : TE} (h : PE X e t) (he : ∀ whole, isTrue e X.env whole = (do let v ← whole; standAt e.pos; holding [v] (truthy v)) := by intro _; rfl) : PT X e (tB t) := by
  intro pins s σ H Q I hw
  refine isTrue_plain (thn (h pins s σ H _ I hw) fun v s1 ⟨x, H1, I1, r1, q1⟩ => ?_) (he _)
  obtain ⟨d, rfl, q⟩ := q1
  cases r1
  exact wpAny_truthy_bool ⟨H1, I1, q⟩

/-! ### and, or, not -/
variable {tA tB' : TT} {rest : List Expr}
def tAnd (t u : TT) : TT := fun σ H Q => t σ H fun c H1 => if c = true then u σ H1 Q else Q false H1
def tOr (t u : TT) : TT := fun σ H Q => t σ H fun c H1 => if c = true then Q true H1 else u σ H1 Q
def tNot (t : TT) : TT := fun σ H Q => t σ H fun c H1 => Q (!c) H1
theorem pw_and1 (ha : PT X a tA) : PW X (.BoolOp .And [a] pos) tA := by
  intro wh pins s σ H Q I h
  refine isTrue_and (thn (ha pins s σ H Q I h) fun c s1 e => ?_)
  cases c with
  | true => exact isTrue_and_nil e
  | false => exact e
theorem pw_or1 (ha : PT X a tA) : PW X (.BoolOp .Or [a] pos) tA := by
  intro wh pins s σ H Q I h
  refine isTrue_or (thn (ha pins s σ H Q I h) fun c s1 e => ?_)
  cases c with
  | false => exact isTrue_or_nil e
  | true => exact e
theorem pw_and (ha : PT X a tA) (hb : PW X (.BoolOp .And (b :: rest) pos) tB') : PW X (.BoolOp .And (a :: b :: rest) pos) (tAnd tA tB') := by
  intro wh pins s σ H Q I h
  refine isTrue_and (thn (ha pins s σ H _ I h) fun c s1 ⟨H1, I1, q1⟩ => ?_)
  cases c with
  | true => exact hb wh pins s1 σ H1 Q I1 q1
  | false => exact ⟨H1, I1, q1⟩
theorem pw_or (ha : PT X a tA) (hb : PW X (.BoolOp .Or (b :: rest) pos) tB') : PW X (.BoolOp .Or (a :: b :: rest) pos) (tOr tA tB') := by
  intro wh pins s σ H Q I h
  refine isTrue_or (thn (ha pins s σ H _ I h) fun c s1 ⟨H1, I1, q1⟩ => ?_)
  cases c with
  | true => exact ⟨H1, I1, q1⟩
  | false => exact hb wh pins s1 σ H1 Q I1 q1
theorem pt_not (ha : PT X a tA) : PT X (.UnaryOp .Not a pos) (tNot tA) := by
  intro pins s σ H Q I h
  exact isTrue_not (ha pins s σ H (fun c H1 => Q (!c) H1) I h)
/-- .. as values (bools) -/
def tAndV (ta tb : TE) : TE := fun σ H Q => ta σ H fun x H1 => ∃ c, x = .bl c ∧ if c = true then tb σ H1 Q else Q (.bl false) H1
def tOrV (ta tb : TE) : TE := fun σ H Q => ta σ H fun x H1 => ∃ c, x = .bl c ∧ if c = true then Q (.bl true) H1 else tb σ H1 Q
def tNotV (ta : TE) : TE := fun σ H Q => ta σ H fun x H1 => ∃ c, x = .bl c ∧ Q (.bl (!c)) H1
theorem pe_one {op} {t : TE} (h : PE X a t) : PE X (.BoolOp op [a] pos) t := fun pins s σ H Q I hw => BoolOp_one (h pins s σ H Q I hw)
theorem pe_and (ha : PE X a ta) (hb : PE X (.BoolOp .And (b :: rest) pos) tb) : PE X (.BoolOp .And (a :: b :: rest) pos) (tAndV ta tb) := by
  intro pins s σ H Q I h
  refine BoolOp_and (thn (ha pins s σ H _ I h) fun v s1 ⟨x, H1, I1, r1, q1⟩ => ?_)
  obtain ⟨c, rfl, q1⟩ := q1
  cases r1
  refine wpAny_truthy_bool ?_
  cases c with
  | true => exact hb pins s1 σ H1 Q I1 q1
  | false => exact ⟨.bl false, H1, I1, rfl, q1⟩
theorem pe_or (ha : PE X a ta) (hb : PE X (.BoolOp .Or (b :: rest) pos) tb) : PE X (.BoolOp .Or (a :: b :: rest) pos) (tOrV ta tb) := by
  intro pins s σ H Q I h
  refine BoolOp_or (thn (ha pins s σ H _ I h) fun v s1 ⟨x, H1, I1, r1, q1⟩ => ?_)
  obtain ⟨c, rfl, q1⟩ := q1
  cases r1
  refine wpAny_truthy_bool ?_
  cases c with
  | false => exact hb pins s1 σ H1 Q I1 q1
  | true => exact ⟨.bl true, H1, I1, rfl, q1⟩
theorem pe_not (ha : PE X a ta) : PE X (.UnaryOp .Not a pos) (tNotV ta) := by
  intro pins s σ H Q I h
  refine UnaryOp_ (thn (ha pins s σ H _ I h) fun v s1 ⟨x, H1, I1, r1, q1⟩ => ?_)
  obtain ⟨c, rfl, q1⟩ := q1
  cases r1
  exact not_of (wpAny_truthy_bool ⟨.bl (!c), H1, I1, rfl, q1⟩)
/-- a if t else b -/
def tIf (t : TT) (ta tb : TE) : TE := fun σ H Q => t σ H fun c H1 => if c = true then ta σ H1 Q else tb σ H1 Q
theorem pe_ifExp {c : Expr} (hc : PT X c tA) (ha : PE X a ta) (hb : PE X b tb) : PE X (.IfExp c a b pos) (tIf tA ta tb) := by
  intro pins s σ H Q I h
  refine wpAny_IfExp (thn (hc pins s σ H _ I h) fun d s1 ⟨H1, I1, q1⟩ => ?_)
  cases d with
  | true => exact ha pins s1 σ H1 Q I1 q1
  | false => exact hb pins s1 σ H1 Q I1 q1
end
end L2

namespace L2
open PySem PySem.Spec PyProof.Rows

/-! ### a list, a tuple that is read: tracked, frozen, or an object of the module -/
def SqL (K : PySem.W.Frag) (H : Hp) (a : Addr) (xs : List V) : Prop :=
  Rd H a (.lst xs) ∨
    ∃ (o : Obj) (its : Array Value) (n : Nat), K.lookup a = some o ∧ o.cls = .type "list" ∧ o.dict = none ∧ o.data = .seq its n ∧ its.size ≤ sizeLine ∧ Vals xs its.toList
def SqT (K : PySem.W.Frag) (H : Hp) (a : Addr) (xs : List V) : Prop :=
  Rd H a (.tup xs) ∨
    ∃ (o : Obj) (its : Array Value) (n : Nat), K.lookup a = some o ∧ o.cls = .type "tuple" ∧ o.data = .seq its n ∧ its.size ≤ sizeLine ∧ Vals xs its.toList
def absV : Value → Option V
  | .none => some .non
  | .bool b => some (.bl b)
  | .int i _ => some (.int i)
  | .str x _ => some (.str x)
  | .bytes b _ => some (.byt b)
  | .float b _ => some (.flt b)
  | .ref a => some (.ref a)
  | .type n => some (.ty n)
  | _ => none
theorem RelV.abs {x : V} {u : Value} (r : RelV x u) : absV u = some x := by
  cases x with
  | non => cases r; rfl
  | bl _ => cases r; rfl
  | int _ => obtain ⟨t, rfl⟩ := r; rfl
  | str _ => obtain ⟨t, rfl⟩ := r; rfl
  | byt _ => obtain ⟨t, rfl⟩ := r; rfl
  | flt _ => obtain ⟨t, rfl⟩ := r; rfl
  | ref _ => cases r; rfl
  | ty _ => cases r; rfl
theorem RelV.inj {x y : V} {u : Value} (r : RelV x u) (q : RelV y u) : x = y := Option.some.inj (r.abs.symm.trans q.abs)
theorem Vals.inj : ∀ {xs ys : List V} {us : List Value}, Vals xs us → Vals ys us → xs = ys
  | _, _, _, .nil, .nil => rfl
  | _, _, _, .cons r t, .cons r' t' => by rw [r.inj r', Vals.inj t t']
section
variable {X : Cx} {pins : List (Addr × Obj)} {σ : St} {H : Hp} {s : Shared} {a : Addr} {xs ys : List V}
theorem SqL.of {K : PySem.W.Frag} (h : H a = some (.lst xs)) : SqL K H a xs := .inl (.inl h)
theorem SqT.of {K : PySem.W.Frag} (h : H a = some (.tup xs)) : SqT K H a xs := .inl (.inl h)
theorem Inv.list (I : Inv X pins σ H s) (h : SqL X.K H a xs) : ∃ its : List Value, Vals xs its ∧ PlainL s.heap a its.toArray ∧ xs.length ≤ sizeLine := by
  rcases h with h | ⟨o, its, n, hk, hc, hd, hs, hz, r⟩
  · obtain ⟨z, its, n, r, e⟩ := h.ok I.hok
    exact ⟨its, r, ⟨_, n, e, rfl, rfl, rfl⟩, z⟩
  · refine ⟨its.toList, r, ⟨o, n, I.kIn a o hk, hc, hd, by simpa using hs⟩, ?_⟩
    have e := r.length
    simp only [Array.length_toList] at e
    omega
theorem Inv.tuple (I : Inv X pins σ H s) (h : SqT X.K H a xs) : ∃ its : List Value, Vals xs its ∧ IsTup s.heap a its.toArray ∧ xs.length ≤ sizeLine := by
  rcases h with h | ⟨o, its, n, hk, hc, hs, hz, r⟩
  · obtain ⟨z, its, r, p⟩ := h.ok I.hok
    exact ⟨its, r, p, z⟩
  · refine ⟨its.toList, r, ⟨o, I.kIn a o hk, hc, n, by simpa using hs⟩, ?_⟩
    have e := r.length
    simp only [Array.length_toList] at e
    omega
theorem Inv.list_inj (I : Inv X pins σ H s) (h : SqL X.K H a xs) (h' : SqL X.K H a ys) : xs = ys := by
  obtain ⟨its, r, ⟨o, n, e, _, _, d⟩, _⟩ := I.list h
  obtain ⟨its', r', ⟨o', n', e', _, _, d'⟩, _⟩ := I.list h'
  rw [e] at e'; cases e'
  rw [d] at d'
  injection d' with d1 _
  have : its = its' := by simpa using congrArg Array.toList d1
  subst this
  exact r.inj r'
theorem Inv.tuple_inj (I : Inv X pins σ H s) (h : SqT X.K H a xs) (h' : SqT X.K H a ys) : xs = ys := by
  obtain ⟨its, r, ⟨o, e, _, n, d⟩, _⟩ := I.tuple h
  obtain ⟨its', r', ⟨o', e', _, n', d'⟩, _⟩ := I.tuple h'
  rw [e] at e'; cases e'
  rw [d] at d'
  injection d' with d1 _
  have : its = its' := by simpa using congrArg Array.toList d1
  subst this
  exact r.inj r'
end

/-! ### another wish about exceptions -/
abbrev Cx.wish (X : Cx) (E : Value → Shared → Prop) : Cx := { X with xe := E }
/-- no exception leaves -/
abbrev Cx.nox (X : Cx) : Cx := X.wish fun _ _ => False
theorem Cx.Ok.wish {X : Cx} (ok : X.Ok) (E : Value → Shared → Prop) : (X.wish E).Ok :=
  ⟨ok.mod, ok.kind, ok.glob, ok.blt, ok.above, ok.inj, ok.has, ok.cab, ok.hd, ok.frames, ok.stk, ok.exf, ok.bs, ok.bsz, ok.noex, ok.exfs, ok.funs, ok.frf⟩
theorem Cx.Ok.unwish {X : Cx} {E : Value → Shared → Prop} (ok : (X.wish E).Ok) : X.Ok :=
  ⟨ok.mod, ok.kind, ok.glob, ok.blt, ok.above, ok.inj, ok.has, ok.cab, ok.hd, ok.frames, ok.stk, ok.exf, ok.bs, ok.bsz, ok.noex, ok.exfs, ok.funs, ok.frf⟩
section
variable {X : Cx} {pins : List (Addr × Obj)} {σ : St} {H : Hp} {s : Shared} {E : Value → Shared → Prop}
theorem Inv.wish (I : Inv X pins σ H s) (E : Value → Shared → Prop) : Inv (X.wish E) pins σ H s := ⟨I.ok.wish E, I.os, I.bare, I.base, I.loc, I.cell, I.free, I.freeC, I.pin, I.hok, I.len⟩
theorem Inv.unwish (I : Inv (X.wish E) pins σ H s) : Inv X pins σ H s := ⟨I.ok.unwish, I.os, I.bare, I.base, I.loc, I.cell, I.free, I.freeC, I.pin, I.hok, I.len⟩
theorem SP.unwish {D : Ends} {f : Flow} {s' : Shared} (h : SP (X.wish E) pins D f s') : SP X pins D f s' := by
  cases f with
  | next => obtain ⟨σ', H', I, q⟩ := h; exact ⟨σ', H', I.unwish, q⟩
  | brk => obtain ⟨σ', H', I, q⟩ := h; exact ⟨σ', H', I.unwish, q⟩
  | cont => obtain ⟨σ', H', I, q⟩ := h; exact ⟨σ', H', I.unwish, q⟩
  | ret u => obtain ⟨v, σ', H', I, r, q⟩ := h; exact ⟨v, σ', H', I.unwish, r, q⟩
theorem PSs.nox {st : List Stmt} {t : TS} (h : PSs X.nox st t) : PSs X st t := fun pins s σ H D I hw =>
  wpAny_mono (h pins s σ H D (I.wish _) hw) (fun _ _ q => q.unwish) fun _ _ z => False.elim z
end

/-! ### blocks and small statements -/
section
variable {X : Cx} {st : Stmt} {rest : List Stmt} {t u : TS} {e : Expr} {te : TE} {pos : Pos}
def tNext : TS := fun D σ H => D.nx σ H
def tSeq (t u : TS) : TS := fun D σ H => t { D with nx := u D } σ H
theorem pss_nil : PSs X [] tNext := fun _ _ σ H _ I h => wpAny_execs_nil ⟨σ, H, I, h⟩
theorem pss_cons (h1 : PS X st t) (h2 : PSs X rest u) : PSs X (st :: rest) (tSeq t u) := by
  intro pins s σ H D I h
  refine wpAny_execs_cons (thn (h1 pins s σ H { D with nx := u D } I h) fun f s1 q => ?_)
  cases f with
  | next =>
    obtain ⟨σ', H', I', q⟩ := q
    exact h2 pins s1 σ' H' D I' q
  | ret v => exact q
  | brk => exact q
  | cont => exact q
theorem pss_one (h1 : PS X st t) : PSs X [st] t := by
  intro pins s σ H D I h
  refine wpAny_execs_cons (thn (h1 pins s σ H D I h) fun f s1 q => ?_)
  cases f with
  | next => exact wpAny_execs_nil q
  | ret v => exact q
  | brk => exact q
  | cont => exact q
/-- in a def's body nothing is shown -/
theorem Inv.quiet {pins : List (Addr × Obj)} {σ : St} {H : Hp} {s : Shared} (I : Inv X pins σ H s) : interactive X.env = false := by simp [interactive, I.ok.kind]
/-- an expression whose value is dropped -/
def tDrop (te : TE) : TS := fun D σ H => te σ H fun _ H1 => D.nx σ H1
theorem ps_expr (he : PE X e te) (hs : swapsWith e none pos.line X.env = pure false := by rfl) : PS X (.Expr e pos) (tDrop te) := by
  intro pins s σ H D I h
  exact wpAny_Expr_any (thn (he pins s σ H _ I h) fun v s1 ⟨x, H1, I1, r1, q1⟩ => ⟨σ, H1, I1, q1⟩) I.quiet hs
def tRet (te : TE) : TS := fun D σ H => te σ H D.rt
theorem ps_ret (he : PE X e te) : PS X (.Return (some e) pos) (tRet te) := by
  intro pins s σ H D I h
  exact wpAny_Return_some (thn (he pins s σ H _ I h) fun v s1 ⟨x, H1, I1, r1, q1⟩ => ⟨x, σ, H1, I1, r1, q1⟩)
def tIfS (c : TT) (t u : TS) : TS := fun D σ H => c σ H fun b H1 => if b = true then t D σ H1 else u D σ H1
theorem ps_if {c : Expr} {a b : List Stmt} {tc : TT} (hc : PT X c tc) (ha : PSs X a t) (hb : PSs X b u) : PS X (.If c a b pos) (tIfS tc t u) := by
  intro pins s σ H D I h
  refine wpAny_If (thn (hc pins s σ H _ I h) fun d s1 ⟨H1, I1, q1⟩ => ?_)
  cases d with
  | true => exact ha pins s1 σ H1 D I1 q1
  | false => exact hb pins s1 σ H1 D I1 q1
/-- code that the proof never comes to -/
def tNever : TS := fun _ _ _ => False
theorem pss_never {sts : List Stmt} : PSs X sts tNever := fun _ _ _ _ _ _ h => h.elim
end

/-! ### targets -/
abbrev TG := V → St → Hp → (St → Hp → Prop) → Prop
abbrev TGs := List V → St → Hp → (St → Hp → Prop) → Prop
def PG (X : Cx) (target : Expr) (t : TG) : Prop :=
  ∀ (pins : List (Addr × Obj)) (s : Shared) (σ : St) (H : Hp) (v : V) (u : Value) (Q : St → Hp → Prop), Inv X pins σ H s → RelV v u → t v σ H Q →
    wpAny (model X.prog X.w) X.A (assign target X.env u) (fun _ s' => ∃ σ' H', Inv X pins σ' H' s' ∧ Q σ' H') X.xe s
/-- several targets, one after another -/
def PGs (X : Cx) (ts : List Expr) (t : TGs) : Prop :=
  ∀ (pins : List (Addr × Obj)) (s : Shared) (σ : St) (H : Hp) (vs : List V) (us : List Value) (Q : St → Hp → Prop), Inv X pins σ H s → Vals vs us → t vs σ H Q →
    wpAny (model X.prog X.w) X.A (assignInOrder ((assignEach ts X.env).map (·.2)) us) (fun _ s' => ∃ σ' H', Inv X pins σ' H' s' ∧ Q σ' H') X.xe s
/-- o[i] = v, by values -/
abbrev TSet := V → V → V → Hp → (Hp → Prop) → Prop
def PSet (X : Cx) (t : TSet) : Prop :=
  ∀ (pins : List (Addr × Obj)) (s : Shared) (σ : St) (H : Hp) (o i v : V) (ov iv u : Value) (Q : Hp → Prop), Inv X pins σ H s → RelV o ov → RelV i iv → RelV v u → t o i v H Q →
    wpAny (model X.prog X.w) X.A (setItem ov iv u) (fun _ s' => ∃ H', Inv X pins σ H' s' ∧ Q H') X.xe s
section
variable {X : Cx} {pos : Pos}
def gName (i : Nat) : TG := fun v σ H Q => Q (σ.set i (some v)) H
theorem pg_name {i : Nat} {x : Str} (hN : X.N.Nodup) (hi : X.N[i]? = some x) (hx : Loc X.env.scope x) (hf : X.fn x = true ∨ X.env.scope.names.lookup x = some .local := by first | exact .inl rfl | exact .inr rfl | assumption) : PG X (.Name x pos) (gName i) := by
  intro pins s σ H v u Q I r h
  exact wpAny_assign_Name (store_ok I hN hi hx r (fun s' I' => ⟨_, H, I', h⟩) hf)
def gNil : TGs := fun vs σ H Q => vs = [] ∧ Q σ H
def gCons (t : TG) (u : TGs) : TGs := fun vs σ H Q => ∃ v r, vs = v :: r ∧ t v σ H fun σ' H' => u r σ' H' Q
theorem pgs_nil : PGs X [] gNil := by
  intro pins s σ H vs us Q I r h
  obtain ⟨e, h⟩ := h
  subst e
  cases r
  exact assignInOrder_nil ⟨σ, H, I, h⟩
theorem pgs_cons {e : Expr} {es : List Expr} {t : TG} {u : TGs} (h1 : PG X e t) (h2 : PGs X es u)
    (hs : (assignEach (e :: es) X.env).map (·.2) = assign e X.env :: (assignEach es X.env).map (·.2) := by rfl) : PGs X (e :: es) (gCons t u) := by
  intro pins s σ H vs us Q I r h
  obtain ⟨v, vr, e1, h⟩ := h
  subst e1
  cases r with
  | cons r rr =>
    rw [hs]
    refine assignInOrder_cons (thn (h1 pins s σ H _ _ _ I r h) fun _ s1 ⟨σ1, H1, I1, q1⟩ => ?_)
    exact h2 pins s1 σ1 H1 _ _ Q I1 rr q1
/-- (a, b, ..) = a tuple of that length -/
def gTup (K : PySem.W.Frag) (n : Nat) (t : TGs) : TG := fun v σ H Q => ∃ a xs, v = .ref a ∧ SqT K H a xs ∧ xs.length = n ∧ t xs σ H Q
theorem pg_tup {es : List Expr} {k : Nat} {t : TGs} {n : Nat} (hc : X.calm = true) (h : PGs X es t)
    (hn : (assignEach es X.env).length = n := by rfl) (hst : (assignEach es X.env).findIdx? (·.1) = none := by rfl) : PG X (.Tuple es k pos) (gTup X.K n t) := by
  intro pins s σ H v u Q I r hw
  obtain ⟨a, xs, e1, hq, hl, hw⟩ := hw
  subst e1
  cases r
  obtain ⟨its, rv, ht, hz⟩ := I.tuple hq
  refine assign_Tuple_tuple (I.ok.hd hc) ht (by simp [hn, ← hl, rv.length]) hst fun h' hx => ?_
  have I1 : Inv X pins σ H { s with heap := h' } := I.kept (t' := s.toks) fun b o e => hx b o (Nat.ne_of_lt (Heap.lt_size e)) e
  exact h pins _ σ H xs _ Q I1 (by simpa using rv) hw
/-- o[i] = .. -/
def gSub (to ti : TE) (t : TSet) : TG := fun v σ H Q => to σ H fun o H1 => ti σ H1 fun i H2 => t o i v H2 fun H3 => Q σ H3
theorem pg_sub {o i : Expr} {to ti : TE} {t : TSet} (ho : PE X o to) (hi : PE X i ti) (hs : PSet X t)
    (ha : ∀ v, assign (.Subscript o i pos) X.env v = (do
      let ov ← holding [v] (eval o X.env)
      let iv ← holding [v, ov] (eval i X.env)
      standAt pos
      holding [v, ov, iv] (setItem ov iv v)
      release [v, ov, iv] []) := by intro _; rfl) : PG X (.Subscript o i pos) (gSub to ti t) := by
  intro pins s σ H v u Q I r h
  rw [ha]
  refine wpAny_bind (wpAny_holding (thn (ho pins s σ H _ I h) fun ov s1 ⟨x, H1, I1, r1, q1⟩ => ?_))
  refine wpAny_bind (wpAny_holding (thn (hi pins s1 σ H1 _ I1 q1) fun iv s2 ⟨y, H2, I2, r2, q2⟩ => ?_))
  refine wpAny_bind (wpAny_standAt (wpAny_bind (wpAny_holding (thn (hs pins s2 σ H2 x y v ov iv u _ I2 r1 r2 r q2) fun _ s3 ⟨H3, I3, q3⟩ => ?_))))
  exact wpAny_release ⟨σ, H3, I3, q3⟩
/-- target = value -/
def tAsg (te : TE) (g : TG) : TS := fun D σ H => te σ H fun x H1 => g x σ H1 D.nx
theorem ps_asg {tg e : Expr} {te : TE} {g : TG} (he : PE X e te) (hg : PG X tg g) (hs : swapsWithSole [tg] e pos.line X.env = pure false := by rfl) (hw : swappedStores [tg] e X.env = pure none := by rfl)
    (h1 : (assignEach [tg] X.env).map (·.2) = [assign tg X.env] := by rfl) : PS X (.Assign [tg] e pos) (tAsg te g) := by
  intro pins s σ H D I h
  refine wpAny_Assign_stores (thn (he pins s σ H _ I h) fun v s1 ⟨x, H1, I1, r1, q1⟩ => ?_) hs hw
  rw [h1]
  exact thn (hg pins s1 σ H1 x v _ I1 r1 q1) fun _ s2 q => q
/-- name = value -/
theorem ps_set {i : Nat} {x : Str} {e : Expr} {te : TE} {pos' : Pos} (hN : X.N.Nodup) (hi : X.N[i]? = some x) (hx : Loc X.env.scope x) (he : PE X e te) (hs : swapsWith e (some (.Name x pos')) pos.line X.env = pure false := by rfl) (hf : X.fn x = true ∨ X.env.scope.names.lookup x = some .local := by first | exact .inl rfl | exact .inr rfl | assumption) :
    PS X (.Assign [.Name x pos'] e pos) (tAsg te (gName i)) := by
  intro pins s σ H D I h
  refine wpAny_Assign_Name (thn (he pins s σ H _ I h) fun v s1 ⟨y, H1, I1, r1, q1⟩ => ?_) hs
  exact store_ok I1 hN hi hx r1 (fun s2 I2 => ⟨_, H1, I2, q1⟩) hf
end

/-! ### while -/
section
variable {X : Cx} {pos : Pos}
end

/-! ### what a loop or a comprehension walks -/
/-- at turn i: it yields x (the heap may grow), or it stops -/
structure It where
  go : Nat → Hp → Prop
  yld : Nat → Hp → V → Hp → Prop
  stop : Nat → Hp → Prop
/-- the iterator's own objects may turn: they are not the frame's, not pinned, younger than the entry (or a comprehension's own) -/
def FpOk (X : Cx) (pins : List (Addr × Obj)) (H : Hp) (b : Addr) : Prop :=
  H b = none ∧ b ≠ X.env.locals ∧ b ∉ X.fs ∧ (b ∈ X.ex ∨ X.s₀.heap.objs.size ≤ b) ∧ (∀ x c, X.env.cells.lookup x = some c → c ≠ b) ∧ ∀ p ∈ X.pn ++ pins, p.1 ≠ b
theorem Inv.fpOk {X : Cx} {pins : List (Addr × Obj)} {σ : St} {H H' : Hp} {s : Shared} {b : Addr} (I : Inv X pins σ H s) (hb : s.heap.objs.size ≤ b) (hn : H' b = none) : FpOk X pins H' b := by
  refine ⟨hn, Nat.ne_of_gt (Nat.lt_of_lt_of_le I.lt hb), I.nofs hb, .inr (Nat.le_trans I.sz hb), fun x c e z => ?_, fun p hp z => ?_⟩
  · obtain ⟨v, q⟩ := I.cell x c e
    exact absurd (Nat.lt_of_lt_of_le q.lt (by rw [z]; exact hb)) (Nat.lt_irrefl _)
  · exact absurd (Nat.lt_of_lt_of_le (Heap.lt_size (I.pin p hp).1) (by rw [z]; exact hb)) (Nat.lt_irrefl _)
structure Turn (P : Program) (w : World) (K : PySem.W.Frag) (tg : Expr) (J : It) (fp : List Addr) (it : Addr) (tn : Nat → Heap → Prop) : Prop where
  mem : it ∈ fp
  obj : ∀ i h, tn i h → ∀ b ∈ fp, ∃ o, h.get? b = some o ∧ ∀ v, o.data ≠ .cell v
  keep : ∀ i h h', tn i h → (∀ b ∈ fp, ∀ o, h.get? b = some o → h'.get? b = some o) → tn i h'
  item : ∀ (X : Cx), X.prog = P → X.w = w → X.K = K → X.calm = true → ∀ (i : Nat) (pins : List (Addr × Obj)) (s : Shared) (σ : St) (H : Hp) (E : Value → Shared → Prop), Inv X pins σ H s → (∀ b ∈ fp, FpOk X pins H b) → tn i s.heap → J.go i H →
    wpAny (model P w) X.A (pyNext (.ref it)) (fun r s1 => ∃ u, r = some u ∧
      wpAny (model P w) X.A (letOwnedTupleGo tg (.ref it) u) (fun _ s2 => ∃ x H', Inv X pins σ H' s2 ∧ RelV x u ∧ J.yld i H x H' ∧ tn (i + 1) s2.heap ∧ ∀ b ∈ fp, H' b = none) E s1) E s
  done : ∀ (X : Cx), X.prog = P → X.w = w → X.K = K → X.calm = true → ∀ (i : Nat) (pins : List (Addr × Obj)) (s : Shared) (σ : St) (H : Hp) (E : Value → Shared → Prop), Inv X pins σ H s → (∀ b ∈ fp, FpOk X pins H b) → tn i s.heap → J.stop i H →
    wpAny (model P w) X.A (pyNext (.ref it)) (fun r s1 => r = none ∧ Inv X pins σ H s1) E s
  self : ∀ (A : Around) (i : Nat) (s : Shared) (Q : Value → Shared → Prop) (E : Value → Shared → Prop), tn i s.heap → Q (.ref it) s → wpAny (model P w) A (pyIter (.ref it)) Q E s
abbrev TI := St → Hp → (It → Hp → Prop) → Prop
/-- an iterator has come -/
def PIE (X : Cx) (pins : List (Addr × Obj)) (σ : St) (tg : Expr) (R : It → Hp → Prop) (itv : Value) (s2 : Shared) : Prop :=
  ∃ (it : Addr) (fp : List Addr) (tn : Nat → Heap → Prop) (J : It) (H' : Hp), itv = .ref it ∧ Inv X pins σ H' s2 ∧ Turn X.prog X.w X.K tg J fp it tn ∧ tn 0 s2.heap ∧ (∀ b ∈ fp, FpOk X pins H' b) ∧ R J H'
def PI (X : Cx) (tg iter : Expr) (wi : TI) : Prop :=
  ∀ (pins : List (Addr × Obj)) (s : Shared) (σ : St) (H : Hp) (R : It → Hp → Prop), Inv X pins σ H s → wi σ H R →
    wpAny (model X.prog X.w) X.A (eval iter X.env) (fun v s1 => wpAny (model X.prog X.w) X.A (pyIter v) (PIE X pins σ tg R) X.xe s1) X.xe s

/-- the step ahead of the store is nothing for an iterator that keeps no tuple -/
theorem go_of {M : Model} {A : Around} {E : Value → Shared → Prop} {s : Shared} {tg : Expr} {it : Addr} {u : Value} {o : Obj} {n : String} {vs : Array Value} {Q : Unit → Shared → Prop} (ho : s.heap.get? it = some o) (hc : o.cls = .type n) (hd : o.data = .fields vs)
    (hn : ["enumerate", "zip", "dict_itemiterator", "dict_reverseitemiterator", "odict_iterator", "itertools.zip_longest", "itertools.pairwise"].contains n = false) (hQ : Q () s) : wpAny M A (letOwnedTupleGo tg (.ref it) u) Q E s := by
  unfold letOwnedTupleGo
  cases tg <;> first
    | exact wpAny_pure hQ
    | (cases u <;> first
        | exact wpAny_pure hQ
        | (refine wpAny_bind (wpAny_load ho ?_)
           rw [hc, hd]
           show wpAny M A (if (["enumerate", "zip", "dict_itemiterator", "dict_reverseitemiterator", "odict_iterator", "itertools.zip_longest", "itertools.pairwise"].contains n && vs[0]? == some (rawInt _)) = true then _ else _) Q E s
           rw [if_neg (by intro h; rw [hn, Bool.false_and] at h; cases h)]
           exact wpAny_pure hQ))

/-- the list at a, as it stands at each turn (a loop may append to it) -/
def Itl (K : PySem.W.Frag) (a : Addr) : It :=
  ⟨fun i H => ∃ xs x, SqL K H a xs ∧ xs[i]? = some x, fun i H x H' => H' = H ∧ ∀ xs, SqL K H a xs → xs[i]? = some x, fun i H => ∃ xs, SqL K H a xs ∧ xs.length ≤ i⟩
def Itt (K : PySem.W.Frag) (a : Addr) : It :=
  ⟨fun i H => ∃ xs x, SqT K H a xs ∧ xs[i]? = some x, fun i H x H' => H' = H ∧ ∀ xs, SqT K H a xs → xs[i]? = some x, fun i H => ∃ xs, SqT K H a xs ∧ xs.length ≤ i⟩
/-- lo, lo + 1, .. (n of them) -/
def Itr (lo : Int) (n : Nat) : It := ⟨fun i _ => i < n, fun i H x H' => H' = H ∧ x = .int (lo + i), fun i _ => n ≤ i⟩
theorem turn_list {P : Program} {w : World} {K : PySem.W.Frag} {tg : Expr} (a it : Addr) : Turn P w K tg (Itl K a) [it] it (fun i h => h.IsListIter it a i) where
  mem := by simp
  obj := fun i h st b hb => by
    have e : b = it := by simpa using hb
    subst e
    obtain ⟨o, e, c, d⟩ := st
    exact ⟨o, e, fun v z => by rw [d] at z; cases z⟩
  keep := fun i h h' st k => st.at fun o e => k it (by simp) o e
  item := by
    intro X hP hw hK hc i pins s σ H E I hf st hg
    subst hP hw hK
    obtain ⟨xs, x, hq, hx⟩ := hg
    obtain ⟨its, rv, p, hz⟩ := I.list hq
    obtain ⟨u, hu, ru⟩ := rv.get hx
    obtain ⟨f0, f1, f2, f3, f4, f5⟩ := hf it (by simp)
    refine wpAny_pyNext_list_item st p.isList (x := u) (by simpa using hu) fun h' st' sb => ?_
    have I1 : Inv X pins σ H { s with heap := h' } := I.turned (t' := s.toks) (fun b o hb e => (sb.2 b hb).trans e) f0 f1 f3 f4 f5
    obtain ⟨o, e, c, d⟩ := id st'
    exact ⟨u, rfl, go_of (s := { s with heap := h' }) e c d (by decide) ⟨x, H, I1, ru, ⟨rfl, fun ys hy => by rw [I.list_inj hy hq]; exact hx⟩, st', fun b hb => (hf b hb).1⟩⟩
  done := by
    intro X hP hw hK hc i pins s σ H E I hf st hg
    subst hP hw hK
    obtain ⟨xs, hq, hx⟩ := hg
    obtain ⟨its, rv, p, hz⟩ := I.list hq
    obtain ⟨f0, f1, f2, f3, f4, f5⟩ := hf it (by simp)
    have hl := rv.length
    exact wpAny_pyNext_list_end (I.ok.hd hc) st p.isList (by simp; omega) fun h' eb => ⟨rfl, I.turned (t' := s.toks) (fun b o hb e => eb b o hb e) f0 f1 f3 f4 f5⟩
  self := fun _ _ _ _ _ st h => wpAny_pyIter_listiter st h
theorem turn_tuple {P : Program} {w : World} {K : PySem.W.Frag} {tg : Expr} (a it : Addr) : Turn P w K tg (Itt K a) [it] it (fun i h => h.IsTupleIter it a i) where
  mem := by simp
  obj := fun i h st b hb => by
    have e : b = it := by simpa using hb
    subst e
    obtain ⟨o, e, c, d⟩ := st
    exact ⟨o, e, fun v z => by rw [d] at z; cases z⟩
  keep := fun i h h' st k => st.at fun o e => k it (by simp) o e
  item := by
    intro X hP hw hK hc i pins s σ H E I hf st hg
    subst hP hw hK
    obtain ⟨xs, x, hq, hx⟩ := hg
    obtain ⟨its, rv, p, hz⟩ := I.tuple hq
    obtain ⟨u, hu, ru⟩ := rv.get hx
    obtain ⟨f0, f1, f2, f3, f4, f5⟩ := hf it (by simp)
    refine wpAny_pyNext_tuple_item st (show s.heap.IsTuple a its.toArray from p) (x := u) (by simpa using hu) fun h' st' sb => ?_
    have I1 : Inv X pins σ H { s with heap := h' } := I.turned (t' := s.toks) (fun b o hb e => (sb.2 b hb).trans e) f0 f1 f3 f4 f5
    obtain ⟨o, e, c, d⟩ := id st'
    exact ⟨u, rfl, go_of (s := { s with heap := h' }) e c d (by decide) ⟨x, H, I1, ru, ⟨rfl, fun ys hy => by rw [I.tuple_inj hy hq]; exact hx⟩, st', fun b hb => (hf b hb).1⟩⟩
  done := by
    intro X hP hw hK hc i pins s σ H E I hf st hg
    subst hP hw hK
    obtain ⟨xs, hq, hx⟩ := hg
    obtain ⟨its, rv, p, hz⟩ := I.tuple hq
    obtain ⟨f0, f1, f2, f3, f4, f5⟩ := hf it (by simp)
    have hl := rv.length
    exact wpAny_pyNext_tuple_end (I.ok.hd hc) st (show s.heap.IsTuple a its.toArray from p) (by simp; omega) fun h' eb => ⟨rfl, I.turned (t' := s.toks) (fun b o hb e => eb b o hb e) f0 f1 f3 f4 f5⟩
  self := fun _ _ _ _ _ st h => wpAny_pyIter_tupleiter st h
theorem turn_range {P : Program} {w : World} {K : PySem.W.Frag} {tg : Expr} (it : Addr) (lo : Int) (n : Nat) : Turn P w K tg (Itr lo n) [it] it (fun i h => IsRangeIter h it (lo + (i : Nat) * 1) ((n : Int) - (i : Nat)) 1) where
  mem := by simp
  obj := fun i h st b hb => by
    have e : b = it := by simpa using hb
    subst e
    exact ⟨_, st, fun v z => by
      have z' : Data.fields _ = Data.cell v := z
      cases z'⟩
  keep := fun i h h' st k => k it (by simp) _ st
  item := by
    intro X hP hw hK hc i pins s σ H E I hf st hg
    subst hP hw hK
    obtain ⟨f0, f1, f2, f3, f4, f5⟩ := hf it (by simp)
    have W := Walks.range (prog := X.prog) (w := X.w) (I.ok.hd hc) it lo 1 n
    refine W.item i s _ _ hg st fun v h' tk hv st' kk => ?_
    obtain ⟨t, rfl⟩ := hv
    have I1 : Inv X pins σ H { s with heap := h', toks := tk } := I.turned (fun b o hb e => kk b o (by simpa using hb) e) f0 f1 f3 f4 f5
    refine ⟨_, rfl, go_of (s := { s with heap := h', toks := tk }) (n := "range_iterator") st' rfl rfl (by decide) ⟨.int (lo + i), H, I1, ⟨t, ?_⟩, ⟨rfl, rfl⟩, st', fun b hb => (hf b hb).1⟩⟩
    rw [Int.mul_one]
  done := by
    intro X hP hw hK hc i pins s σ H E I hf st hg
    subst hP hw hK
    obtain ⟨f0, f1, f2, f3, f4, f5⟩ := hf it (by simp)
    exact wpAny_pyNext_range_end (I.ok.hd hc) st (by have : n ≤ i := hg; omega) fun h' eb => ⟨rfl, I.turned (t' := s.toks) (fun b o hb e => eb b o hb e) f0 f1 f3 f4 f5⟩
  self := fun _ _ _ _ _ st h => wpAny_pyIter_rangeiter st h
end L2

namespace L2
open PySem PySem.Spec PyProof.Rows
section
variable {X : Cx} {tg : Expr}
def iList (K : PySem.W.Frag) (tl : TE) : TI := fun σ H R => tl σ H fun x H1 => ∃ a, x = .ref a ∧ (∃ xs, SqL K H1 a xs) ∧ R (Itl K a) H1
def iTup (K : PySem.W.Frag) (tl : TE) : TI := fun σ H R => tl σ H fun x H1 => ∃ a, x = .ref a ∧ (∃ xs, SqT K H1 a xs) ∧ R (Itt K a) H1
theorem pi_list {l : Expr} {tl : TE} (hl : PE X l tl) : PI X tg l (iList X.K tl) := by
  intro pins s σ H R I h
  refine thn (hl pins s σ H _ I h) fun v s1 ⟨x, H1, I1, r1, q1⟩ => ?_
  obtain ⟨a, e, ⟨xs, hq⟩, q⟩ := q1
  subst e
  cases r1
  obtain ⟨its, rv, p, hz⟩ := I1.list hq
  refine wpAny_pyIter_list p.isList ?_
  refine ⟨s1.heap.objs.size, [s1.heap.objs.size], _, _, H1, rfl, I1.kept (t' := s1.toks) fun b o e => Heap.get?_push_of_some _ e, turn_list a _, ⟨_, Heap.get?_push_size _ rfl, rfl, rfl⟩, fun b hb => ?_, q⟩
  have e : b = s1.heap.objs.size := by simpa using hb
  subst e
  exact I1.fpOk (Nat.le_refl _) (I1.hok.fresh (Nat.le_refl _))
theorem pi_tup {l : Expr} {tl : TE} (hl : PE X l tl) : PI X tg l (iTup X.K tl) := by
  intro pins s σ H R I h
  refine thn (hl pins s σ H _ I h) fun v s1 ⟨x, H1, I1, r1, q1⟩ => ?_
  obtain ⟨a, e, ⟨xs, hq⟩, q⟩ := q1
  subst e
  cases r1
  obtain ⟨its, rv, p, hz⟩ := I1.tuple hq
  refine wpAny_pyIter_tuple (show s1.heap.IsTuple a its.toArray from p) ?_
  refine ⟨s1.heap.objs.size, [s1.heap.objs.size], _, _, H1, rfl, I1.kept (t' := s1.toks) fun b o e => Heap.get?_push_of_some _ e, turn_tuple a _, ⟨_, Heap.get?_push_size _ rfl, rfl, rfl⟩, fun b hb => ?_, q⟩
  have e : b = s1.heap.objs.size := by simpa using hb
  subst e
  exact I1.fpOk (Nat.le_refl _) (I1.hok.fresh (Nat.le_refl _))
/-- a range object just made, walked -/
theorem range_it {pins : List (Addr × Obj)} {σ : St} {H : Hp} {s : Shared} {R : It → Hp → Prop} {E : Value → Shared → Prop} {lo hi : Int} {t u v : Tok} {tk : Nat} (I : Inv X pins σ H s) (h1 : -(2 ^ 62) ≤ lo) (h2 : lo < 2 ^ 62) (h3 : -(2 ^ 62) ≤ hi) (h4 : hi < 2 ^ 62)
    (q : R (Itr lo (hi - lo).toNat) H) : wpAny (model X.prog X.w) X.A (pyIter (.ref s.heap.objs.size)) (PIE X pins σ tg R) E { s with heap := s.heap.push { cls := .type "range", data := .fields #[.int lo t, .int hi u, .int 1 v] }, toks := tk } := by
  refine wpAny_pyIter_range (IsRange.new ..) (small_one h1 h2 h3 h4) ?_
  have I1 : Inv X pins σ H { s with heap := s.heap.push { cls := .type "range", data := .fields #[.int lo t, .int hi u, .int 1 v] }, toks := tk } := I.kept fun b o e => Heap.get?_push_of_some _ e
  refine ⟨(s.heap.push { cls := .type "range", data := .fields #[.int lo t, .int hi u, .int 1 v] }).objs.size, [(s.heap.push { cls := .type "range", data := .fields #[.int lo t, .int hi u, .int 1 v] }).objs.size], _, _, H, rfl,
    I1.kept (t' := tk) fun b o e => Heap.get?_push_of_some _ e, turn_range _ lo (hi - lo).toNat, ?_, fun b hb => ?_, q⟩
  · have e1 : lo + ((0 : Nat) : Int) * 1 = lo := by simp
    have e2 : (((hi - lo).toNat : Nat) : Int) - ((0 : Nat) : Int) = Builtin.Range.rangeSize lo hi 1 := by rw [rangeSize_one]; split <;> omega
    show IsRangeIter _ _ (lo + ((0 : Nat) : Int) * 1) ((((hi - lo).toNat : Nat) : Int) - ((0 : Nat) : Int)) 1
    rw [e1, e2]
    exact Heap.get?_push_size _ rfl
  · have e : b = (s.heap.push { cls := .type "range", data := .fields #[.int lo t, .int hi u, .int 1 v] }).objs.size := by simpa using hb
    subst e
    exact I1.fpOk (Nat.le_refl _) (I1.hok.fresh (Nat.le_refl _))
def iRng1 (ta : TA) : TI := fun σ H R => ta σ H fun vs H1 => ∃ j : Int, vs = [.int j] ∧ -(2 ^ 62) ≤ j ∧ j < 2 ^ 62 ∧ R (Itr 0 j.toNat) H1
def iRng2 (ta : TA) : TI := fun σ H R => ta σ H fun vs H1 => ∃ i j : Int, vs = [.int i, .int j] ∧ (-(2 ^ 62) ≤ i ∧ i < 2 ^ 62 ∧ -(2 ^ 62) ≤ j ∧ j < 2 ^ 62) ∧ R (Itr i (j - i).toNat) H1
theorem pi_range1 {a : Expr} {ta : TA} {p pos : Pos} (hg : Gl X "range") (hm : X.mg "range" = none) (ha : PA X [a] ta) (hs : starEach [a] X.env = [(false, eval a X.env)] := by rfl) : PI X tg (.Call (.Name "range" p) [a] [] pos) (iRng1 ta) := by
  intro pins s σ H R I h
  refine Call_ (ld_blt I hg hm boot_range (PyProof.Rows.callWith_type1 (thn (ha pos pins s σ H _ I h) fun us s1 ⟨vs, H1, I1, r1, q1⟩ => ?_) hs rfl))
  obtain ⟨j, e, q1, q2, q⟩ := q1
  subst e
  cases r1 with
  | cons r rr =>
    cases rr
    obtain ⟨t, rfl⟩ := r
    exact call_range_1 (range_it I1 (by omega) (by omega) q1 q2 (by simpa using q))
theorem pi_range2 {a b : Expr} {ta : TA} {p pos : Pos} (hg : Gl X "range") (hm : X.mg "range" = none) (ha : PA X [a, b] ta) (hs : starEach [a, b] X.env = [(false, eval a X.env), (false, eval b X.env)] := by rfl) (hs2 : starEach [b] X.env = [(false, eval b X.env)] := by rfl) :
    PI X tg (.Call (.Name "range" p) [a, b] [] pos) (iRng2 ta) := by
  intro pins s σ H R I h
  refine Call_ (ld_blt I hg hm boot_range (PyProof.Rows.callWith_type1 (thn (ha pos pins s σ H _ I h) fun us s1 ⟨vs, H1, I1, r1, q1⟩ => ?_) (by rw [hs, hs2]) (by rw [hs2]; rfl)))
  obtain ⟨i, j, e, ⟨q1, q2, q3, q4⟩, q⟩ := q1
  subst e
  cases r1 with
  | cons r rr =>
    cases rr with
    | cons r' rr =>
      cases rr
      obtain ⟨t, rfl⟩ := r
      obtain ⟨t', rfl⟩ := r'
      exact call_range_2 (range_it I1 q1 q2 q3 q4 q)

/-! ### for -/
/-- W: the invariant by the turn and a measure; N: what the body is to reach -/
def tFor (wi : TI) (g : TG) (tb : TS) : TS := fun D σ H => wi σ H fun J H1 => ∃ W : Nat → Nat → St → Hp → Prop, (∃ m, W 0 m σ H1) ∧ ∀ i m σ H, W i m σ H →
  (J.stop i H ∧ D.nx σ H) ∨ (J.go i H ∧ ∃ N : St → Hp → Prop, (∀ σ' H', N σ' H' → ∃ m', m' < m ∧ W (i + 1) m' σ' H') ∧ ∀ x H', J.yld i H x H' → g x σ H' fun σ2 H2 => tb { D with nx := N, ct := N, bk := D.nx } σ2 H2)
/-- the records at fp as they stand -/
def pinsAt (fp : List Addr) (h : Heap) : List (Addr × Obj) := fp.filterMap fun b => (h.get? b).map fun o => (b, o)
theorem mem_pinsAt {fp : List Addr} {h : Heap} {b : Addr} {o : Obj} (hb : b ∈ fp) (e : h.get? b = some o) : (b, o) ∈ pinsAt fp h := List.mem_filterMap.mpr ⟨b, hb, by rw [e]; rfl⟩
theorem of_pinsAt {fp : List Addr} {h : Heap} {p : Addr × Obj} (hp : p ∈ pinsAt fp h) : p.1 ∈ fp ∧ h.get? p.1 = some p.2 := by
  obtain ⟨b, hb, e⟩ := List.mem_filterMap.mp hp
  cases q : h.get? b with
  | none => rw [q] at e; cases e
  | some o =>
    rw [q] at e
    have e' : (b, o) = p := Option.some.inj e
    subst e'
    exact ⟨hb, q⟩
theorem Inv.pinned {pins : List (Addr × Obj)} {σ : St} {H : Hp} {s : Shared} {fp : List Addr} (I : Inv X pins σ H s) (hf : ∀ b ∈ fp, FpOk X pins H b) (ho : ∀ b ∈ fp, ∃ o, s.heap.get? b = some o ∧ ∀ v, o.data ≠ .cell v) : Inv X (pins ++ pinsAt fp s.heap) σ H s :=
  I.pins_of fun p hp => (List.mem_append.mp hp).elim (fun z => I.pin p (List.mem_append_right _ z)) fun z => by
    obtain ⟨hb, e⟩ := of_pinsAt z
    obtain ⟨f0, f1, f2, _⟩ := hf p.1 hb
    obtain ⟨o, e', d⟩ := ho p.1 hb
    rw [e] at e'; cases e'
    exact ⟨e, f0, f1, f2, d⟩
theorem Inv.unpinned {pins pl : List (Addr × Obj)} {σ : St} {H : Hp} {s : Shared} (I : Inv X (pins ++ pl) σ H s) : Inv X pins σ H s := I.pins_of fun p hp => I.pin p (List.mem_append_right _ (List.mem_append_left _ hp))
theorem ps_for {iter : Expr} {body : List Stmt} {wi : TI} {g : TG} {tb : TS} {pos : Pos} (hp : PassesOwn (model X.prog X.w) X.A X.env X.xe) (hc : X.calm = true) (hi : PI X tg iter wi) (hg : PG X tg g) (hb : PSs X body tb)
    (hs : ∀ x, foldedSetIterable iter X.env x = pure x := by intro _; rfl) : PS X (.For tg iter body [] pos) (tFor wi g tb) := by
  intro pins s σ H D I h
  refine wpAny_For (thn (hi pins s σ H _ I h) fun v s1 h1 => thn h1 fun itv s2 h2 => ?_) hs
  obtain ⟨it, fp, tn, J, H2, e, I2, T, st2, f2, W, ⟨m0, w0⟩, turn⟩ := h2
  subst e
  -- what stays true of the iterator's objects through the loop
  have stat : ∀ {H' : Hp}, (∀ b ∈ fp, H' b = none) → ∀ b ∈ fp, FpOk X pins H' b := fun hn b hb => ⟨hn b hb, (f2 b hb).2⟩
  refine codeAny_forLoop_any (fun n s' => ∃ i σ' H', Inv X pins σ' H' s' ∧ tn i s'.heap ∧ (∀ b ∈ fp, H' b = none) ∧ W i n σ' H') ?_ m0 ⟨0, σ, H2, I2, st2, fun b hb => (f2 b hb).1, w0⟩
  rintro n s3 ⟨i, σ3, H3, I3, st3, fr3, w3⟩
  rcases turn i n σ3 H3 w3 with ⟨stop, qn⟩ | ⟨go, N, hN, step⟩
  · refine wpAny_passesOwn hp (thn (T.done X rfl rfl rfl hc i pins s3 σ3 H3 X.xe I3 (stat fr3) st3 stop) fun r s4 ⟨hr, I4⟩ => ?_)
    subst hr
    exact wpAny_execs_nil ⟨σ3, H3, I4, qn⟩
  · refine wpAny_passesOwn hp (thn (T.item X rfl rfl rfl hc i pins s3 σ3 H3 X.xe I3 (stat fr3) st3 go) fun r s4 ⟨u, hr, h4⟩ => ?_)
    subst hr
    refine wpAny_passesOwn hp (thn h4 fun _ s5 ⟨x, H5, I5, r5, y5, st5, fr5⟩ => ?_)
    have I5' := I5.pinned (stat fr5) (T.obj _ _ st5)
    refine wpAny_passesOwn hp (thn (hg _ s5 σ3 H5 x u _ I5' r5 (step x H5 y5)) fun _ s6 ⟨σ6, H6, I6, q6⟩ => ?_)
    refine wpAny_passesOwn hp (thn (hb _ s6 σ6 H6 _ I6 q6) fun f s7 q7 => ?_)
    have again : ∀ {σ7 : St} {H7 : Hp}, Inv X (pins ++ pinsAt fp s5.heap) σ7 H7 s7 → N σ7 H7 → ∃ m, m < n ∧ ∃ i σ' H', Inv X pins σ' H' s7 ∧ tn i s7.heap ∧ (∀ b ∈ fp, H' b = none) ∧ W i m σ' H' := fun {σ7 H7} I7 n7 => by
      obtain ⟨m', hm, w7⟩ := hN σ7 H7 n7
      refine ⟨m', hm, i + 1, σ7, H7, I7.unpinned, T.keep _ _ _ st5 fun b hb o e => (I7.pin (b, o) (List.mem_append_right _ (List.mem_append_right _ (mem_pinsAt hb e)))).1, fun b hb => ?_, w7⟩
      obtain ⟨o, e, d⟩ := T.obj _ _ st5 b hb
      exact (I7.pin (b, o) (List.mem_append_right _ (List.mem_append_right _ (mem_pinsAt hb e)))).2.1
    cases f with
    | next => obtain ⟨σ7, H7, I7, n7⟩ := q7; exact again I7 n7
    | cont => obtain ⟨σ7, H7, I7, n7⟩ := q7; exact again I7 n7
    | brk => obtain ⟨σ7, H7, I7, q7⟩ := q7; exact ⟨σ7, H7, I7.unpinned, q7⟩
    | ret v => obtain ⟨x7, σ7, H7, I7, r7, q7⟩ := q7; exact ⟨x7, σ7, H7, I7.unpinned, r7, q7⟩
end

/-! ### the forms one uses -/
/-- over a list that the body leaves as it is -/
theorem for_list {K : PySem.W.Frag} {a : Addr} {xs : List V} {g : TG} {tb : TS} {D : Ends} {σ : St} {H : Hp} (Pv : Nat → St → Hp → Prop) (h0 : Pv 0 σ H) (hl : ∀ i σ H, i ≤ xs.length → Pv i σ H → SqL K H a xs)
    (hs : ∀ i x σ H, xs[i]? = some x → Pv i σ H → g x σ H fun σ2 H2 => tb { D with nx := Pv (i + 1), ct := Pv (i + 1), bk := D.nx } σ2 H2) (hd : ∀ σ H, Pv xs.length σ H → D.nx σ H) :
    ∃ W : Nat → Nat → St → Hp → Prop, (∃ m, W 0 m σ H) ∧ ∀ i m σ H, W i m σ H →
      ((Itl K a).stop i H ∧ D.nx σ H) ∨ ((Itl K a).go i H ∧ ∃ N : St → Hp → Prop, (∀ σ' H', N σ' H' → ∃ m', m' < m ∧ W (i + 1) m' σ' H') ∧ ∀ x H', (Itl K a).yld i H x H' → g x σ H' fun σ2 H2 => tb { D with nx := N, ct := N, bk := D.nx } σ2 H2) := by
  refine ⟨fun i m σ H => m = xs.length - i ∧ i ≤ xs.length ∧ Pv i σ H, ⟨xs.length, by simp, Nat.zero_le _, h0⟩, ?_⟩
  rintro i m σ H ⟨rfl, hi, p⟩
  have q := hl i σ H hi p
  by_cases hlt : i < xs.length
  · refine .inr ⟨⟨xs, xs[i], q, by simp [hlt]⟩, Pv (i + 1), fun σ' H' p' => ⟨xs.length - (i + 1), by omega, rfl, hlt, p'⟩, fun x H' y => ?_⟩
    obtain ⟨e, y⟩ := y
    subst e
    exact hs i x σ _ (y xs q) p
  · have e : i = xs.length := by omega
    subst e
    exact .inl ⟨⟨xs, q, Nat.le_refl _⟩, hd σ H p⟩
theorem for_tup {K : PySem.W.Frag} {a : Addr} {xs : List V} {g : TG} {tb : TS} {D : Ends} {σ : St} {H : Hp} (Pv : Nat → St → Hp → Prop) (h0 : Pv 0 σ H) (hl : ∀ i σ H, i ≤ xs.length → Pv i σ H → SqT K H a xs)
    (hs : ∀ i x σ H, xs[i]? = some x → Pv i σ H → g x σ H fun σ2 H2 => tb { D with nx := Pv (i + 1), ct := Pv (i + 1), bk := D.nx } σ2 H2) (hd : ∀ σ H, Pv xs.length σ H → D.nx σ H) :
    ∃ W : Nat → Nat → St → Hp → Prop, (∃ m, W 0 m σ H) ∧ ∀ i m σ H, W i m σ H →
      ((Itt K a).stop i H ∧ D.nx σ H) ∨ ((Itt K a).go i H ∧ ∃ N : St → Hp → Prop, (∀ σ' H', N σ' H' → ∃ m', m' < m ∧ W (i + 1) m' σ' H') ∧ ∀ x H', (Itt K a).yld i H x H' → g x σ H' fun σ2 H2 => tb { D with nx := N, ct := N, bk := D.nx } σ2 H2) := by
  refine ⟨fun i m σ H => m = xs.length - i ∧ i ≤ xs.length ∧ Pv i σ H, ⟨xs.length, by simp, Nat.zero_le _, h0⟩, ?_⟩
  rintro i m σ H ⟨rfl, hi, p⟩
  have q := hl i σ H hi p
  by_cases hlt : i < xs.length
  · refine .inr ⟨⟨xs, xs[i], q, by simp [hlt]⟩, Pv (i + 1), fun σ' H' p' => ⟨xs.length - (i + 1), by omega, rfl, hlt, p'⟩, fun x H' y => ?_⟩
    obtain ⟨e, y⟩ := y
    subst e
    exact hs i x σ _ (y xs q) p
  · have e : i = xs.length := by omega
    subst e
    exact .inl ⟨⟨xs, q, Nat.le_refl _⟩, hd σ H p⟩
theorem for_range {lo : Int} {n : Nat} {g : TG} {tb : TS} {D : Ends} {σ : St} {H : Hp} (Pv : Nat → St → Hp → Prop) (h0 : Pv 0 σ H)
    (hs : ∀ i σ H, i < n → Pv i σ H → g (.int (lo + i)) σ H fun σ2 H2 => tb { D with nx := Pv (i + 1), ct := Pv (i + 1), bk := D.nx } σ2 H2) (hd : ∀ σ H, Pv n σ H → D.nx σ H) :
    ∃ W : Nat → Nat → St → Hp → Prop, (∃ m, W 0 m σ H) ∧ ∀ i m σ H, W i m σ H →
      ((Itr lo n).stop i H ∧ D.nx σ H) ∨ ((Itr lo n).go i H ∧ ∃ N : St → Hp → Prop, (∀ σ' H', N σ' H' → ∃ m', m' < m ∧ W (i + 1) m' σ' H') ∧ ∀ x H', (Itr lo n).yld i H x H' → g x σ H' fun σ2 H2 => tb { D with nx := N, ct := N, bk := D.nx } σ2 H2) := by
  refine ⟨fun i m σ H => m = n - i ∧ i ≤ n ∧ Pv i σ H, ⟨n, by simp, Nat.zero_le _, h0⟩, ?_⟩
  rintro i m σ H ⟨rfl, hi, p⟩
  by_cases hlt : i < n
  · refine .inr ⟨hlt, Pv (i + 1), fun σ' H' p' => ⟨n - (i + 1), by omega, rfl, hlt, p'⟩, fun x H' y => ?_⟩
    obtain ⟨e, y⟩ := y
    subst e y
    exact hs i σ _ hlt p
  · have e : i = n := by omega
    subst e
    exact .inl ⟨Nat.le_refl _, hd σ H p⟩
end L2

namespace L2
open PySem PySem.Spec PyProof.Rows

abbrev R2 := V → V → Hp → VK → Prop
/-- a two-place operation on values: f is binaryOp op, inplaceOp op or compareOp op -/
def OpR (X : Cx) (f : Value → Value → Sem Value) (r : R2) : Prop :=
  ∀ (pins : List (Addr × Obj)) (s : Shared) (σ : St) (H : Hp) (x y : V) (v u : Value) (Q : VK), Inv X pins σ H s → RelV x v → RelV y u → r x y H Q →
    wpAny (model X.prog X.w) X.A (f v u) (EP X pins σ Q) X.xe s
/-- a one-place operation -/
def UnR (X : Cx) (f : Value → Sem Value) (r : V → Hp → VK → Prop) : Prop :=
  ∀ (pins : List (Addr × Obj)) (s : Shared) (σ : St) (H : Hp) (x : V) (v : Value) (Q : VK), Inv X pins σ H s → RelV x v → r x H Q →
    wpAny (model X.prog X.w) X.A (f v) (EP X pins σ Q) X.xe s
/-- a call of a value that is known (a builtin, a type) with values -/
def CallR (X : Cx) (f : Value) (r : List V → Hp → VK → Prop) : Prop :=
  ∀ (pins : List (Addr × Obj)) (s : Shared) (σ : St) (H : Hp) (xs : List V) (us : List Value) (Q : VK), Inv X pins σ H s → Vals xs us → r xs H Q →
    wpAny (model X.prog X.w) X.A (call f us) (EP X pins σ Q) X.xe s
def tOp (r : R2) (ta tb : TE) : TE := fun σ H Q => ta σ H fun x H1 => tb σ H1 fun y H2 => r x y H2 Q
def tUn (r : V → Hp → VK → Prop) (ta : TE) : TE := fun σ H Q => ta σ H fun x H1 => r x H1 Q
/-- ints in, under C, and a value out -/
def rI (C : Int → Int → Prop) (g : Int → Int → V) : R2 := fun x y H Q => ∃ i j, x = .int i ∧ y = .int j ∧ C i j ∧ Q (g i j) H
def rI0 (g : Int → Int → V) : R2 := fun x y H Q => ∃ i j, x = .int i ∧ y = .int j ∧ Q (g i j) H
def rU (g : Int → V) : V → Hp → VK → Prop := fun x H Q => ∃ i, x = .int i ∧ Q (g i) H

section
variable {X : Cx} {a b c : Expr} {ta tb tc : TE} {pos : Pos}

theorem binT (ha : PE X a ta) (hb : PE X b tb) {pins : List (Addr × Obj)} {s : Shared} {σ : St} {H : Hp} {R : V → V → Hp → Prop} (I : Inv X pins σ H s)
    (h : ta σ H fun x H1 => tb σ H1 fun y H2 => R x y H2) {Q : Value → Shared → Prop} {f : Value → Value → Sem Value}
    (hf : ∀ v u s2 x y H2, Inv X pins σ H2 s2 → RelV x v → RelV y u → R x y H2 → wpAny (model X.prog X.w) X.A (f v u) Q X.xe s2) :
    wpAny (model X.prog X.w) X.A (eval a X.env) (fun v s₁ => wpAny (model X.prog X.w) X.A (eval b X.env) (fun u s₂ => wpAny (model X.prog X.w) X.A (f v u) Q X.xe s₂) X.xe s₁) X.xe s := by
  refine thn (ha pins s σ H _ I h) fun v s1 ⟨x, H1, I1, r1, q1⟩ => ?_
  refine thn (hb pins s1 σ H1 _ I1 q1) fun u s2 ⟨y, H2, I2, r2, q2⟩ => ?_
  exact hf v u s2 x y H2 I2 r1 r2 q2

theorem pe_op {op : Operator} {r : R2} (ho : OpR X (binaryOp op) r) (ha : PE X a ta) (hb : PE X b tb) : PE X (.BinOp a op b pos) (tOp r ta tb) := by
  intro pins s σ H Q I h
  exact wpAny_BinOp (binT ha hb I h fun v u s2 x y H2 I2 rx ry q => ho pins s2 σ H2 x y v u Q I2 rx ry q)
theorem pe_un {op : UnaryOp} {r : V → Hp → VK → Prop} (ho : UnR X (unaryOp op) r) (ha : PE X a ta) : PE X (.UnaryOp op a pos) (tUn r ta) := by
  intro pins s σ H Q I h
  exact UnaryOp_ (thn (ha pins s σ H _ I h) fun v s1 ⟨x, H1, I1, r1, q1⟩ => ho pins s1 σ H1 x v Q I1 r1 q1)
/-! ### ints -/
theorem opI {f : Value → Value → Sem Value} {C : Int → Int → Prop} {g : Int → Int → Int}
    (rule : ∀ (i j : Int) (t u : Tok) (s : Shared) (Q : Value → Shared → Prop) (E : Value → Shared → Prop), C i j → Q (.int (g i j) s.toks) { s with toks := s.toks + 1 } → wpAny (model X.prog X.w) X.A (f (.int i t) (.int j u)) Q E s) :
    OpR X f (rI C fun i j => .int (g i j)) := by
  intro pins s σ H x y v u Q I rx ry h
  obtain ⟨i, j, rfl, rfl, hc, q⟩ := h
  obtain ⟨t, rfl⟩ := rx
  obtain ⟨t', rfl⟩ := ry
  exact rule i j t t' s _ _ hc ⟨.int (g i j), H, I.tok _, ⟨_, rfl⟩, q⟩
theorem opI0 {f : Value → Value → Sem Value} {g : Int → Int → Int}
    (rule : ∀ (i j : Int) (t u : Tok) (s : Shared) (Q : Value → Shared → Prop) (E : Value → Shared → Prop), Q (.int (g i j) s.toks) { s with toks := s.toks + 1 } → wpAny (model X.prog X.w) X.A (f (.int i t) (.int j u)) Q E s) :
    OpR X f (rI0 fun i j => .int (g i j)) := by
  intro pins s σ H x y v u Q I rx ry h
  obtain ⟨i, j, rfl, rfl, q⟩ := h
  obtain ⟨t, rfl⟩ := rx
  obtain ⟨t', rfl⟩ := ry
  exact rule i j t t' s _ _ ⟨.int (g i j), H, I.tok _, ⟨_, rfl⟩, q⟩
theorem opB0 {f : Value → Value → Sem Value} {g : Int → Int → Bool}
    (rule : ∀ (i j : Int) (t u : Tok) (s : Shared) (Q : Value → Shared → Prop) (E : Value → Shared → Prop), Q (.bool (g i j)) s → wpAny (model X.prog X.w) X.A (f (.int i t) (.int j u)) Q E s) :
    OpR X f (rI0 fun i j => .bl (g i j)) := by
  intro pins s σ H x y v u Q I rx ry h
  obtain ⟨i, j, rfl, rfl, q⟩ := h
  obtain ⟨t, rfl⟩ := rx
  obtain ⟨t', rfl⟩ := ry
  exact rule i j t t' s _ _ ⟨.bl (g i j), H, I, rfl, q⟩

def CDiv (i j : Int) : Prop := 0 < j ∧ j < 1073741824
def CMul (i j : Int) : Prop := (-(2 ^ 64) < i ∧ i < 2 ^ 64) ∨ (-(2 ^ 64) < j ∧ j < 2 ^ 64)
theorem CMul.ok {i j : Int} (h : CMul i j) : IntMulOk i j := by
  rcases h with ⟨h1, h2⟩ | ⟨h1, h2⟩
  · exact .of_left (intBits_le_64 h1 h2)
  · exact .of_right (intBits_le_64 h1 h2)
theorem op_add : OpR X (binaryOp .Add) (rI0 fun i j => .int (i + j)) := opI0 fun _ _ _ _ _ _ _ q => add_int q
theorem op_mul : OpR X (binaryOp .Mult) (rI CMul fun i j => .int (i * j)) := opI fun _ _ _ _ _ _ _ hc q => mul_int q hc.ok
/-- // by a positive divisor -/
theorem op_fdiv : OpR X (binaryOp .FloorDiv) (rI CDiv fun i j => .int (i / j)) := opI fun i j _ _ _ _ _ hc q => by
  have h1 : (0 : Int) < j := hc.1
  have h2 : j < 1073741824 := hc.2
  exact floordiv_int (by omega) (by rw [Int.fdiv_eq_ediv_of_nonneg i (by omega)]; exact q) (.inl (PyProof.noPylong_small (by omega)))
/-- % by a positive divisor of any size -/
theorem op_mod : OpR X (binaryOp .Mod) (rI (fun _ j => 0 < j) fun i j => .int (i % j)) := opI fun i j _ _ _ _ _ hc q => by
  have h1 : (0 : Int) < j := hc
  exact mod_int' (by omega) (by rw [Int.fmod_eq_emod_of_nonneg i (by omega)]; exact q)
theorem unI {f : Value → Sem Value} {g : Int → Int}
    (rule : ∀ (i : Int) (t : Tok) (s : Shared) (Q : Value → Shared → Prop) (E : Value → Shared → Prop), Q (.int (g i) s.toks) { s with toks := s.toks + 1 } → wpAny (model X.prog X.w) X.A (f (.int i t)) Q E s) :
    UnR X f (rU fun i => .int (g i)) := by
  intro pins s σ H x v Q I rx h
  obtain ⟨i, rfl, q⟩ := h
  obtain ⟨t, rfl⟩ := rx
  exact rule i t s _ _ ⟨.int (g i), H, I.tok _, ⟨_, rfl⟩, q⟩
theorem un_neg : UnR X (unaryOp .USub) (rU fun i => .int (-i)) := unI fun _ _ _ _ _ q => neg_int q
/-! ### bools among ints: n += (a < b) -/
end

/-! ### comparisons -/
/-- the scalars that == tells apart as data does -/
def scal : V → V → Bool
  | .non, .non => true | .non, .int _ => true | .int _, .non => true | .non, .bl _ => true | .bl _, .non => true | .non, .str _ => true | .str _, .non => true
  | .int _, .int _ => true | .bl _, .bl _ => true | .str _, .str _ => true | .byt _, .byt _ => true
  | .int _, .str _ => true | .str _, .int _ => true | .bl _, .str _ => true | .str _, .bl _ => true
  | _, _ => false
def rEq : R2 := fun x y H Q => scal x y = true ∧ Q (.bl (decide (x = y))) H
def rNe : R2 := fun x y H Q => scal x y = true ∧ Q (.bl (!decide (x = y))) H

theorem dec_int {i j : Int} : decide (V.int i = V.int j) = (i == j) := by
  rw [Bool.eq_iff_iff]
  simp
theorem dec_bl {i j : Bool} : decide (V.bl i = V.bl j) = (i == j) := by
  rw [Bool.eq_iff_iff]
  simp
theorem dec_str {i j : Str} : decide (V.str i = V.str j) = (i == j) := by
  rw [Bool.eq_iff_iff]
  simp
theorem dec_byt {i j : Array UInt8} : decide (V.byt i = V.byt j) = (i.toList == j.toList) := by
  rw [Bool.eq_iff_iff]
  cases i
  cases j
  simp

section
variable {X : Cx} {a b c : Expr} {ta tb tc : TE} {pos : Pos}
theorem fin_bl {pins : List (Addr × Obj)} {σ : St} {H : Hp} {s : Shared} {Q : VK} {k k' : Bool} (I : Inv X pins σ H s) (q : Q (.bl k) H) (e : k = k') : EP X pins σ Q (.bool k') s := by
  subst e
  exact ⟨.bl k, H, I, rfl, q⟩
theorem op_eq : OpR X (compareOp .Eq) rEq := by
  intro pins s σ H x y v u Q I rx ry h
  obtain ⟨hs, q⟩ := h
  cases x with
  | non =>
    cases rx
    cases y with
    | non => cases ry; exact PySem.EqNone.eq_none_none (fin_bl I q (by simp))
    | bl j => cases ry; exact PySem.EqNone.eq_none_bool (fin_bl I q (by simp))
    | int j => obtain ⟨t', rfl⟩ := ry; exact PySem.EqNone.eq_none_int (fin_bl I q (by simp))
    | str j => obtain ⟨t', rfl⟩ := ry; exact PySem.EqNone.eq_none_str (fin_bl I q (by simp))
    | _ => exact absurd (show false = true from hs) Bool.false_ne_true
  | bl i =>
    cases rx
    cases y with
    | non => cases ry; exact PySem.EqNone.eq_bool_none (fin_bl I q (by simp))
    | bl j => cases ry; exact eq_bool (fin_bl I q dec_bl)
    | str j => obtain ⟨t', rfl⟩ := ry; exact PySem.EqMixed.eq_bool_str (fin_bl I q (by simp))
    | _ => exact absurd (show false = true from hs) Bool.false_ne_true
  | int i =>
    obtain ⟨t, rfl⟩ := rx
    cases y with
    | non => cases ry; exact PySem.EqNone.eq_int_none (fin_bl I q (by simp))
    | int j => obtain ⟨t', rfl⟩ := ry; exact eq_int (fin_bl I q dec_int)
    | str j => obtain ⟨t', rfl⟩ := ry; exact PySem.EqMixed.eq_int_str (fin_bl I q (by simp))
    | _ => exact absurd (show false = true from hs) Bool.false_ne_true
  | str i =>
    obtain ⟨t, rfl⟩ := rx
    cases y with
    | non => cases ry; exact PySem.EqNone.eq_str_none (fin_bl I q (by simp))
    | bl j => cases ry; exact PySem.EqMixed.eq_str_bool (fin_bl I q (by simp))
    | int j => obtain ⟨t', rfl⟩ := ry; exact PySem.EqMixed.eq_str_int (fin_bl I q (by simp))
    | str j => obtain ⟨t', rfl⟩ := ry; exact eq_str (fin_bl I q dec_str)
    | _ => exact absurd (show false = true from hs) Bool.false_ne_true
  | byt i =>
    obtain ⟨t, rfl⟩ := rx
    cases y with
    | byt j => obtain ⟨t', rfl⟩ := ry; exact PySem.W.eq_bytes (fin_bl I q dec_byt)
    | _ => exact absurd (show false = true from hs) Bool.false_ne_true
  | _ => cases y <;> exact absurd (show false = true from hs) Bool.false_ne_true
theorem op_ne : OpR X (compareOp .NotEq) rNe := by
  intro pins s σ H x y v u Q I rx ry h
  obtain ⟨hs, q⟩ := h
  cases x with
  | non =>
    cases rx
    cases y with
    | non => cases ry; exact PySem.EqNone.ne_none_none (fin_bl I q (by simp))
    | bl j => cases ry; exact PySem.EqNone.ne_none_bool (fin_bl I q (by simp))
    | int j => obtain ⟨t', rfl⟩ := ry; exact PySem.EqNone.ne_none_int (fin_bl I q (by simp))
    | str j => obtain ⟨t', rfl⟩ := ry; exact PySem.EqNone.ne_none_str (fin_bl I q (by simp))
    | _ => exact absurd (show false = true from hs) Bool.false_ne_true
  | bl i =>
    cases rx
    cases y with
    | non => cases ry; exact PySem.EqNone.ne_bool_none (fin_bl I q (by simp))
    | bl j => cases ry; exact ne_bool (fin_bl I q (congrArg not dec_bl))
    | str j => obtain ⟨t', rfl⟩ := ry; exact PySem.EqMixed.ne_bool_str (fin_bl I q (by simp))
    | _ => exact absurd (show false = true from hs) Bool.false_ne_true
  | int i =>
    obtain ⟨t, rfl⟩ := rx
    cases y with
    | non => cases ry; exact PySem.EqNone.ne_int_none (fin_bl I q (by simp))
    | int j => obtain ⟨t', rfl⟩ := ry; exact ne_int (fin_bl I q (congrArg not dec_int))
    | str j => obtain ⟨t', rfl⟩ := ry; exact PySem.EqMixed.ne_int_str (fin_bl I q (by simp))
    | _ => exact absurd (show false = true from hs) Bool.false_ne_true
  | str i =>
    obtain ⟨t, rfl⟩ := rx
    cases y with
    | non => cases ry; exact PySem.EqNone.ne_str_none (fin_bl I q (by simp))
    | bl j => cases ry; exact PySem.EqMixed.ne_str_bool (fin_bl I q (by simp))
    | int j => obtain ⟨t', rfl⟩ := ry; exact PySem.EqMixed.ne_str_int (fin_bl I q (by simp))
    | str j => obtain ⟨t', rfl⟩ := ry; exact ne_str (fin_bl I q (congrArg not dec_str))
    | _ => exact absurd (show false = true from hs) Bool.false_ne_true
  | byt i =>
    obtain ⟨t, rfl⟩ := rx
    cases y with
    | byt j => obtain ⟨t', rfl⟩ := ry; exact PySem.W.ne_bytes (fin_bl I q (congrArg not dec_byt))
    | _ => exact absurd (show false = true from hs) Bool.false_ne_true
  | _ => cases y <;> exact absurd (show false = true from hs) Bool.false_ne_true

theorem op_lt : OpR X (compareOp .Lt) (rI0 fun i j => .bl (decide (i < j))) := opB0 fun _ _ _ _ _ _ _ q => lt_int q
theorem op_le : OpR X (compareOp .LtE) (rI0 fun i j => .bl (decide (i ≤ j))) := opB0 fun _ _ _ _ _ _ _ q => le_int q
theorem op_gt : OpR X (compareOp .Gt) (rI0 fun i j => .bl (decide (j < i))) := opB0 fun _ _ _ _ _ _ _ q => gt_int q
/-- the one string within the other -/
theorem op_in_str : OpR X (compareOp .In) (fun x y H Q => ∃ i j, x = .str i ∧ y = .str j ∧ Q (.bl (!(Builtin.Str.occurrences j i 0 j.length 1).isEmpty)) H) := by
  intro pins s σ H x y v u Q I rx ry h
  obtain ⟨i, j, rfl, rfl, q⟩ := h
  obtain ⟨t, rfl⟩ := rx
  obtain ⟨t', rfl⟩ := ry
  exact in_str (fin_bl I q rfl)

/-- is None, is not None: the right side a value none -/
theorem op_isN : OpR X (compareOp .Is) (fun x y H Q => y = .non ∧ Q (.bl (decide (x = .non))) H) := by
  intro pins s σ H x y v u Q I rx ry h
  obtain ⟨rfl, q⟩ := h
  cases ry
  refine is_none_gen (fin_bl I q ?_)
  cases x <;> first
    | (cases rx; rfl)
    | (obtain ⟨t, rfl⟩ := rx; rfl)
theorem nomark (b : Expr) {op : CmpOp} (h : op ≠ .In := by decide) (h2 : op ≠ .NotIn := by decide) : behindInMarks op b = false := by
  have e1 : (op == CmpOp.In) = false := by cases op <;> first | rfl | exact absurd rfl h
  have e2 : (op == CmpOp.NotIn) = false := by cases op <;> first | rfl | exact absurd rfl h2
  cases b <;> simp [behindInMarks, e1, e2]
/-- a comparison as a value; hm: nomark b, or (for in, not in) by with_unfolding_all rfl -/
theorem pe_cmpR {op : CmpOp} {r : R2} (ho : OpR X (compareOp op) r) (ha : PE X a ta) (hb : PE X b tb) (hm : behindInMarks op b = false) : PE X (.Compare a [op] [b] pos) (tOp r ta tb) := by
  intro pins s σ H Q I h
  exact wpAny_Compare1 (binT ha hb I h fun v u s2 x y H2 I2 rx ry q => ho pins s2 σ H2 x y v u Q I2 rx ry q) hm
/-- a reading of a value as a test -/
def tTest (t : TE) : TT := fun σ H Q => t σ H fun x H' => ∃ k, x = .bl k ∧ Q k H'
theorem pt_cmpR {op : CmpOp} {r : R2} (ho : OpR X (compareOp op) r) (ha : PE X a ta) (hb : PE X b tb) (hm : behindInMarks op b = false) : PT X (.Compare a [op] [b] pos) (tTest (tOp r ta tb)) := by
  intro pins s σ H Q I h
  refine wpAny_isTrue_Compare1 (thn (ha pins s σ H _ I h) fun v s1 ⟨x, H1, I1, r1, q1⟩ => thn (hb pins s1 σ H1 _ I1 q1) fun u s2 ⟨y, H2, I2, r2, q2⟩ =>
    thn (ho pins s2 σ H2 x y v u _ I2 r1 r2 q2) fun c s3 ⟨z, H3, I3, r3, k, e, q3⟩ => ?_) hm
  subst e
  cases r3
  exact wpAny_truthy_bool ⟨H3, I3, q3⟩
/-- a op1 b op2 c -/
def tChain (r r' : R2) (ta tb tc : TE) : TE := fun σ H Q => ta σ H fun x H1 => tb σ H1 fun y H2 => r x y H2 fun z H3 => ∃ k, z = .bl k ∧
  (if k = true then tc σ H3 fun w' H4 => r' y w' H4 Q else Q (.bl false) H3)
theorem pe_chain {op op' : CmpOp} {r r' : R2} (ho : OpR X (compareOp op) r) (ho' : OpR X (compareOp op') r') (ha : PE X a ta) (hb : PE X b tb) (hc : PE X c tc)
    (hm : lastMarks [op, op'] [b, c] = false := by with_unfolding_all rfl) : PE X (.Compare a [op, op'] [b, c] pos) (tChain r r' ta tb tc) := by
  intro pins s σ H Q I h
  refine Compare_chain (thn (ha pins s σ H _ I h) fun v s1 ⟨x, H1, I1, r1, q1⟩ => chain_link (thn (hb pins s1 σ H1 _ I1 q1) fun u s2 ⟨y, H2, I2, r2, q2⟩ =>
    thn (ho pins s2 σ H2 x y v u _ I2 r1 r2 q2) fun d s3 ⟨z, H3, I3, r3, k, e, q3⟩ => ?_)) hm
  subst e
  cases r3
  refine wpAny_truthy_bool ?_
  cases k with
  | false => exact ite_ff ⟨.bl false, H3, I3, rfl, q3⟩
  | true => exact ite_tt (chain_last (thn (hc pins s3 σ H3 _ I3 q3) fun w' s4 ⟨z', H4, I4, r4, q4⟩ => ho' pins s4 σ H4 y z' u w' Q I4 r2 r4 q4))
theorem pt_chain {op op' : CmpOp} {r r' : R2} (ho : OpR X (compareOp op) r) (ho' : OpR X (compareOp op') r') (ha : PE X a ta) (hb : PE X b tb) (hc : PE X c tc)
    (hm : lastMarks [op, op'] [b, c] = false := by with_unfolding_all rfl) : PT X (.Compare a [op, op'] [b, c] pos) (tTest (tChain r r' ta tb tc)) := by
  intro pins s σ H Q I h
  refine isTrue_chain (thn (ha pins s σ H _ I h) fun v s1 ⟨x, H1, I1, r1, q1⟩ => test_link (thn (hb pins s1 σ H1 _ I1 q1) fun u s2 ⟨y, H2, I2, r2, q2⟩ =>
    thn (ho pins s2 σ H2 x y v u _ I2 r1 r2 q2) fun d s3 ⟨z, H3, I3, r3, k, e, q3⟩ => ?_)) hm
  subst e
  cases r3
  refine wpAny_truthy_bool ?_
  cases k with
  | false =>
    obtain ⟨k', e', q'⟩ := q3
    cases e'
    exact ite_ff ⟨H3, I3, q'⟩
  | true =>
    refine ite_tt (test_last (thn (hc pins s3 σ H3 _ I3 q3) fun w' s4 ⟨z', H4, I4, r4, q4⟩ => thn (ho' pins s4 σ H4 y z' u w' _ I4 r2 r4 q4) fun d' s5 ⟨z2, H5, I5, r5, k2, e2, q5⟩ => ?_))
    subst e2
    cases r5
    exact wpAny_truthy_bool ⟨H5, I5, q5⟩

/-! ### truth -/
theorem line63 : (sizeLine : Nat) < 2 ^ 63 := by rw [sizeLine_eq]; decide
/-! ### strs and bytes -/
theorem op_add_str : OpR X (binaryOp .Add) (fun x y H Q => ∃ i j, x = .str i ∧ y = .str j ∧ i.length + j.length ≤ sizeLine ∧ Q (.str (i ++ j)) H) := by
  intro pins s σ H x y v u Q I rx ry h
  obtain ⟨i, j, rfl, rfl, hz, q⟩ := h
  obtain ⟨t, rfl⟩ := rx
  obtain ⟨t', rfl⟩ := ry
  exact add_str (fun t' tk => ⟨.str (i ++ j), H, I.tok _, ⟨_, rfl⟩, q⟩) hz
/-! ### scalar builtins, by CallR -/
theorem vals1 {x : V} {us : List Value} (r : Vals [x] us) : ∃ u, us = [u] ∧ RelV x u := by
  cases r with
  | cons r1 r2 => cases r2; exact ⟨_, rfl, r1⟩
theorem vals2 {x y : V} {us : List Value} (r : Vals [x, y] us) : ∃ u w', us = [u, w'] ∧ RelV x u ∧ RelV y w' := by
  cases r with
  | cons r1 r2 =>
    cases r2 with
    | cons r3 r4 => cases r4; exact ⟨_, _, rfl, r1, r3⟩
theorem call_str_int : CallR X (.type "str") (fun xs H Q => ∃ i, xs = [.int i] ∧ i.natAbs.log2 < 1920 ∧ Q (.str (toString i)) H) := by
  intro pins s σ H xs us Q I r h
  obtain ⟨i, rfl, hz, q⟩ := h
  obtain ⟨u, rfl, t, rfl⟩ := vals1 r
  exact PySem.P.str_of_int hz ⟨.str _, H, I.tok _, ⟨_, rfl⟩, q⟩
end
end L2

namespace L2
open PySem PySem.Spec PyProof.Rows

/-! ### an instance, its attributes a map -/
structure ObjM (h : Heap) (x dx C : Addr) (mA : Str → Option Value) : Prop where
  obj : h.get? x = some (PySem.W.instObj C dx)
  ns : h.Ns1 dx mA
  ne : dx ≠ x

theorem lookIn_ns {h : Heap} {dx : Addr} {mA : Str → Option Value} (n : h.Ns1 dx mA) : ∃ od, h.get? dx = some od ∧ ∀ name, PySem.W.lookIn name od = some (mA name) := by
  obtain ⟨o, es, ep, ho, hd, hk, _, hm⟩ := n
  refine ⟨o, ho, fun name => ?_⟩
  have e := hm name
  unfold nsFind findBy at e
  rw [← Array.find?_toList] at e
  unfold PySem.W.lookIn
  rw [hd]
  dsimp only
  split
  · rename_i y q
    rw [q] at e
    exact congrArg some e
  · rename_i q
    rw [q] at e
    have a : es.toList.any (·.refKey) = false := by
      rw [List.any_eq_false]
      intro y hy
      obtain ⟨z, t, hkey⟩ := hk y (Array.mem_toList_iff.mp hy)
      simp [DictEntry.refKey, hkey]
    have a' : ¬ es.toList.any (·.refKey) = true := by rw [a]; exact Bool.false_ne_true
    rw [if_neg a']
    exact congrArg some e

theorem ObjM.look {h : Heap} {x dx C : Addr} {mA : Str → Option Value} (I : ObjM h x dx C mA) : ∃ od, PySem.W.InstAt h x (PySem.W.instObj C dx) C (some od) ∧ ∀ name, PySem.W.lookIn name od = some (mA name) :=
  let ⟨od, ho, hl⟩ := lookIn_ns I.ns
  ⟨od, ⟨I.obj, rfl, rfl, ho⟩, hl⟩

section
variable {prog : Program} {w : World} {A : Around} {E : Value → Shared → Prop} {s : Shared} {K : PySem.W.Frag} {x dx C f : Addr} {mA : Str → Option Value} {name : Str} {v : Value}

end

/-! ### the attributes as a list of pairs -/
section
variable {P : Program} {w : World} {H H' : Hp} {h h' : Heap} {a C dx : Addr} {fs fs' : List (Str × V)}
theorem ins_get (hok : HOk P w H h) (e : H a = some (.ins C dx fs)) : ∃ mA, ObjM h a dx C mA ∧ (∀ f, RelO (fs.lookup f) (mA f)) ∧ PySem.Within mA (fs.map (·.1)) ∧ fs.length ≤ 1000 ∧ H dx = some (.own a) := by
  obtain ⟨d, z, ne, ob, mA, n, r, q⟩ := (show ObjOk P w H h a (.ins C dx fs) from hok a _ e)
  exact ⟨mA, ⟨ob, n, ne⟩, r, q, z, d⟩
end

/-! ### what of the text a class must have -/
structure Cls (K : PySem.W.Frag) (C : Addr) : Prop where
  pg : PySem.W.plainGet K C Str.empty = true
  hd : PySem.W.hasDictIn K C = true
  po : PySem.W.plainOver K C = true
  sa : PySem.W.findIn K (.ref C) "__setattr__" = some (some (.builtin "object.__setattr__"))
theorem Cls.get {K : PySem.W.Frag} {C : Addr} (c : Cls K C) (f : Str) : PySem.W.plainGet K C f = true := c.pg
section
variable {X : Cx} {pins : List (Addr × Obj)} {σ : St} {H : Hp} {s : Shared} {a C dx : Addr} {fs : List (Str × V)} {f : Str} {v : V} {A : Around} {E : Value → Shared → Prop}

end

/-! ### readings and rules -/
section
variable {X : Cx} {o e value : Expr} {f : Str} {pos pos' tpos : Pos} {ta tv : TE}
end

/-! ### isinstance -/
section
variable {X : Cx} {pins : List (Addr × Obj)} {σ : St} {H : Hp} {s : Shared} {A : Around} {E : Value → Shared → Prop} {Q : Value → Shared → Prop} {c : Value} {b : Bool}
/-- the type of a value, as the fragment's deciders take it; for an instance its class -/
inductive TyOf (K : PySem.W.Frag) (H : Hp) : V → Value → Prop where
  | non : TyOf K H .non (.type "NoneType")
  | bl (x : Bool) : TyOf K H (.bl x) (.type "bool")
  | int (i : Int) : TyOf K H (.int i) (.type "int")
  | str (x : Str) : TyOf K H (.str x) (.type "str")
  | flt (x : UInt64) : TyOf K H (.flt x) (.type "float")
  | lst {a : Addr} {xs : List V} (e : H a = some (.lst xs)) : TyOf K H (.ref a) (.type "list")
  | frz {a : Addr} {o : Obj} {xs : List V} (e : H a = some (.frz o (.lst xs))) : TyOf K H (.ref a) (.type "list")
  | tup {a : Addr} {xs : List V} (e : H a = some (.tup xs)) : TyOf K H (.ref a) (.type "tuple")
  | dK {a : Addr} {kvs : List (Key × V)} (e : H a = some (.dK kvs)) : TyOf K H (.ref a) (.type "dict")
  | dT {a : Addr} {kvs : List (List Key × V)} (e : H a = some (.dT kvs)) : TyOf K H (.ref a) (.type "dict")
  | ins {a C dx : Addr} {fs : List (Str × V)} (e : H a = some (.ins C dx fs)) (cl : Cls K C) (ha : PySem.W.findIn K (.ref C) "__class__" = some (some (.builtin "object.__class__")))
      (hn : PySem.W.specialIn K (.builtin "object.__class__") "__get__" = some (some (.builtin "getset_descriptor.__get__"))) (htk : PySem.W.takesIn K (.builtin "object.__class__") = some true)
      (hm : PySem.W.mroIn K C (.type "object") = some true) : TyOf K H (.ref a) (.ref C)
/-- isinstance(x, c) for one class c, a built-in or an own one: kitOne's answer -/
theorem isinst_ok {x : V} {u t : Value} (I : Inv X pins σ H s) (rx : RelV x u) (ty : TyOf X.K H x t) (e : PySem.W.kitOne X.K t c = some b) (h : ∀ tk, Q (.bool b) { s with toks := tk }) :
    wpAny (model X.prog X.w) A (call (.builtin "isinstance") [u, c]) Q E s := by
  cases ty with
  | non => cases (show u = Value.none from rx); exact PySem.W.kia_one PySem.W.kitx_none I.kIn True.intro e (fun z => nomatch z) h
  | bl y => cases (show u = Value.bool y from rx); exact PySem.W.kia_one PySem.W.kitx_bool I.kIn True.intro e (fun z => nomatch z) h
  | int i => obtain ⟨t, q⟩ := (show ∃ t, u = Value.int i t from rx); cases q; exact PySem.W.kia_one PySem.W.kitx_int I.kIn True.intro e (fun z => nomatch z) h
  | str y => obtain ⟨t, q⟩ := (show ∃ t, u = Value.str y t from rx); cases q; exact PySem.W.kia_one PySem.W.kitx_str I.kIn True.intro e (fun z => nomatch z) h
  | flt y => obtain ⟨t, q⟩ := (show ∃ t, u = Value.float y t from rx); cases q; exact PySem.W.kia_one PySem.W.kitx_float I.kIn True.intro e (fun z => nomatch z) h
  | @lst a xs ea =>
    cases (show u = Value.ref a from rx)
    obtain ⟨_, _, n, _, h1⟩ := (show ObjOk X.prog X.w H s.heap a (.lst xs) from I.hok a _ ea)
    exact PySem.W.kia_one PySem.W.kitx_list I.kIn ⟨_, h1, rfl⟩ e (fun z => nomatch z) h
  | @frz a ob xs ea =>
    cases (show u = Value.ref a from rx)
    obtain ⟨_, _, _, n, _, h1⟩ := (show ObjOk X.prog X.w H s.heap a (.frz ob (.lst xs)) from I.hok a _ ea)
    exact PySem.W.kia_one PySem.W.kitx_list I.kIn ⟨_, h1, rfl⟩ e (fun z => nomatch z) h
  | @tup a xs ea =>
    cases (show u = Value.ref a from rx)
    obtain ⟨_, _, _, p⟩ := (show ObjOk X.prog X.w H s.heap a (.tup xs) from I.hok a _ ea)
    obtain ⟨o, h1, h2, _⟩ := p
    exact PySem.W.kia_one PySem.W.kitx_tuple I.kIn ⟨o, h1, h2⟩ e (fun z => nomatch z) h
  | @dK a kvs ea =>
    cases (show u = Value.ref a from rx)
    obtain ⟨_, _, vs, _, p⟩ := (show ObjOk X.prog X.w H s.heap a (.dK kvs) from I.hok a _ ea)
    obtain ⟨o, es, ep, h1, h2, _⟩ := p
    exact PySem.W.kia_one PySem.W.kitx_dict I.kIn ⟨o, h1, h2.1⟩ e (fun z => nomatch z) h
  | @dT a kvs ea => exact False.elim (show ObjOk X.prog X.w H s.heap a (.dT kvs) from I.hok a _ ea)
  | @ins a C dx fs ea cl ha hn htk hm =>
    cases (show u = Value.ref a from rx)
    obtain ⟨mA, O, _⟩ := ins_get I.hok ea
    obtain ⟨od, J, _⟩ := O.look
    exact PySem.W.kia_one (PySem.W.kitx_own (cl.get _) cl.hd ha hn htk hm) I.kIn J e (fun z => nomatch z) h
end
end L2

namespace L2
open PySem PySem.Spec PyProof.Rows

/-! ### room -/
structure Room (k : Nat) (A : Around) : Prop where
  hd : A.handled = none
  dp : A.depth + 3 * k + 5 < recursionLimit
  un : A.units + 16 * k + 200 < cLine
theorem Room.mono {j k : Nat} {A : Around} (r : Room k A) (h : j ≤ k) : Room j A := ⟨r.hd, by have := r.dp; omega, by have := r.un; omega⟩
theorem Room.deeper {k : Nat} {A : Around} (r : Room (k + 1) A) (env : Env) : Room k (A.deeper env) :=
  ⟨r.hd, by have := r.dp; show A.depth + 1 + 3 * k + 5 < _; omega, by have := r.un; show A.units + 3 + 16 * k + 200 < _; omega⟩
theorem Room.depth {k : Nat} {A : Around} (r : Room k A) : A.depth < recursionLimit := by have := r.dp; omega
theorem Room.units {k : Nat} {A : Around} (r : Room k A) : A.units + 64 < cLine := by have := r.un; omega
/-! ### argument lists and displays -/
def tNil : TA := fun _ H Q => Q [] H
def tCons (ta : TE) (tr : TA) : TA := fun σ H Q => ta σ H fun x H1 => tr σ H1 fun xs H2 => Q (x :: xs) H2
section
variable {X : Cx} {e : Expr} {es : List Expr} {te : TE} {t : TA} {pos : Pos}
theorem pa_nil : PA X [] tNil := fun _ _ _ _ H Q I h => Calls.spliced_nil ⟨[], H, I, .nil, h⟩
theorem pa_cons (ha : PE X e te) (hr : PA X es t) (hs : starEach (e :: es) X.env = (false, eval e X.env) :: starEach es X.env := by rfl) : PA X (e :: es) (tCons te t) := by
  intro pos pins s σ H Q I h
  rw [hs]
  show wpAny _ _ (spliced ((false, eval e X.env) :: backTo pos (starEach es X.env))) _ _ s
  refine Calls.spliced_cons (thn (ha pins s σ H _ I h) fun u s1 ⟨x, H1, I1, r1, q1⟩ => ?_)
  exact thn (hr pos pins s1 σ H1 _ I1 q1) fun us s2 ⟨xs, H2, I2, r2, q2⟩ => ⟨x :: xs, H2, I2, .cons r1 r2, q2⟩

/-- a tuple, a list of written items -/
def tTup (t : TA) : TE := fun σ H Q => t σ H fun xs H1 => xs.length ≤ sizeLine ∧ ∀ p, H1 p = none → Q (.ref p) (upd H1 p (.tup xs))
def tLst (t : TA) : TE := fun σ H Q => t σ H fun xs H1 => xs.length ≤ sizeLine ∧ ∀ p, H1 p = none → Q (.ref p) (upd H1 p (.lst xs))
theorem pe_tup {x1} (h : PA X es t) : PE X (.Tuple es x1 pos) (tTup t) := by
  intro pins s σ H Q I hq
  refine wpAny_Tuple_spliced (thn (h pos pins s σ H _ I hq) fun us s1 ⟨xs, H1, I1, r, z, q⟩ => ⟨by rw [← r.length]; exact z, ?_⟩)
  have hf : H1 s1.heap.objs.size = none := I1.hok.fresh (Nat.le_refl _)
  refine ⟨.ref s1.heap.objs.size, upd H1 s1.heap.objs.size (.tup xs), I1.laid (t' := s1.toks) (fun b u e => Heap.get?_push_of_some _ e) (Nat.le_refl _) ?_, rfl, q _ hf⟩
  exact ⟨z, us, r, ⟨_, Heap.get?_push_size _ rfl, rfl, _, rfl⟩⟩
theorem pe_lst (h : PA X es t) : PE X (.List es pos) (tLst t) := by
  intro pins s σ H Q I hq
  refine wpAny_List_spliced (thn (h pos pins s σ H _ I hq) fun us s1 ⟨xs, H1, I1, r, z, q⟩ => ⟨by rw [← r.length]; exact z, ?_⟩)
  have hf : H1 s1.heap.objs.size = none := I1.hok.fresh (Nat.le_refl _)
  refine ⟨.ref s1.heap.objs.size, upd H1 s1.heap.objs.size (.lst xs), I1.laid (t' := s1.toks) (fun b u e => Heap.get?_push_of_some _ e) (Nat.le_refl _) ?_, rfl, q _ hf⟩
  exact ⟨z, us, 0, r, Heap.get?_push_size _ rfl⟩
end

/-! ### what a def promises -/
/-- a def's promise: the bound arguments in the parameters' order, the heap, the wanted end, the wanted exception -/
abbrev Sp := List V → Hp → VK → XK → Prop
/-- how an exception lies behind a call (file 08 gives it): the callers' frames, abstract heap and state ahead of the call, the wish, the exception, the state -/
abbrev CXT := List Env → Hp → Shared → XK → Value → Shared → Prop

/-- the state at a call -/
structure Env0 (P : Program) (w : World) (K : PySem.W.Frag) (mg : Str → Option Value) (base : Heap) (A : Around) (outer : List Env) (s : Shared) (H : Hp) : Prop where
  frames : A.frames = some outer
  mod : Mod K mg base
  bs : ∀ b o, base.get? b = some o → s.heap.get? b = some o ∧ H b = none
  bsz : base.objs.size ≤ s.heap.objs.size
  funs : s.heap.FunFrames base outer
  frf : ∀ b ∈ frs outer, H b = none
  hok : HOk P w H s.heap
  bare : AllBare s.gens
/-- a call's end -/
def CE (outer : List Env) (P : Program) (w : World) (H : Hp) (s : Shared) (Q : VK) (u : Value) (s' : Shared) : Prop :=
  ∃ v H', s'.os = s.os ∧ AllBare s'.gens ∧ Un (frs outer) [] H H' s.heap s'.heap ∧ HOk P w H' s'.heap ∧ RelV v u ∧ Q v H'
def CR (CX : CXT) (outer : List Env) (P : Program) (w : World) (H : Hp) (s : Shared) (Q : VK) (E : XK) (r : Result) (s' : Shared) : Prop :=
  match r with
  | .ok (.ret u) => CE outer P w H s Q u s'
  | .ok _ => False
  | .error e => CX outer H s E e s'
structure FnOk (P : Program) (w : World) (K : PySem.W.Frag) (mg : Str → Option Value) (base : Heap) (CX : CXT) (k : Nat) (f : Addr) (fd : FuncData) (ps : List Str) (sp : Sp) : Prop where
  len : ∀ vs H Q E, sp vs H Q E → vs.length = ps.length
  run : ∀ (A : Around) (outer : List Env) (s : Shared) (H : Hp) (args : Args) (us : List Value) (vs : List V) (Q : VK) (E : XK), Room k A → Env0 P w K mg base A outer s H → BindsTo s fd args (ps.zip us) → Vals vs us → sp vs H Q E →
    codeAny (model P w) A (.call (.ref f) args) (CR CX outer P w H s Q E) s
theorem FnOk.mono {P : Program} {w : World} {K : PySem.W.Frag} {mg : Str → Option Value} {base : Heap} {CX : CXT} {j k : Nat} {f : Addr} {fd : FuncData} {ps : List Str} {sp : Sp} (F : FnOk P w K mg base CX j f fd ps sp) (h : j ≤ k) :
    FnOk P w K mg base CX k f fd ps sp := ⟨F.len, fun A outer s H args us vs Q E hr => F.run A outer s H args us vs Q E (hr.mono h)⟩
section
variable {X : Cx} {pins : List (Addr × Obj)} {σ : St} {H : Hp} {s s' : Shared}
/-- from a body: what a callee wants -/
theorem Inv.env0 (I : Inv X pins σ H s) : Env0 X.prog X.w X.K X.mg X.base X.A X.stack s H :=
  ⟨I.ok.frames, I.ok.mod, I.bs, Nat.le_trans I.ok.bsz I.sz, I.stack, I.stkFree, I.hok, I.bare⟩
/-- behind a call -/
theorem Inv.after {Q : VK} {u : Value} (I : Inv X pins σ H s) (h : CE X.stack X.prog X.w H s Q u s') : EP X pins σ Q u s' := by
  obtain ⟨v, H', os, bare, un, hok, r, q⟩ := h
  obtain ⟨hh, g, d, t, os'⟩ := s'
  obtain rfl : os' = s.os := os
  exact ⟨v, H', I.call (h' := hh) (g' := g) (d' := d) (t' := t) (ch := []) un hok bare (fun b z => absurd z (by simp)), r, q⟩
end

/-! ### calls -/
/-- f(..): the written arguments, then the defaults dvs; E: what is wanted of an exception -/
def tCall (sp : Sp) (dvs : List V) (E : XK) (t : TA) : TE := fun σ H Q => t σ H fun vs H1 => sp (vs ++ dvs) H1 Q E
/-- how the parameters are bound: us the positional arguments, kw the keywords' values by name, ds the defaults that fill up -/
def Binds (K : PySem.W.Frag) (fd : FuncData) (ps : List Str) (ds : List Value) : Prop :=
  ∀ (s : Shared) (us : List Value), K.In s.heap → (us ++ ds).length = ps.length → BindsTo s fd ⟨us, []⟩ (ps.zip (us ++ ds))
/-- every parameter is given -/
theorem Binds.all {K : PySem.W.Frag} {fd : FuncData} {ps : List Str} (h : ∀ us : List Value, us.length = ps.length → bindArgs fd ⟨us, []⟩ = pure (ps.zip us)) : Binds K fd ps [] := fun s us _ hl => by
  rw [List.append_nil] at hl ⊢
  exact .of_eq (h us hl)

/-- an exception of a callee reaches what this body wants of exceptions -/
def Passes (CX : CXT) (X : Cx) (E : XK) : Prop := ∀ (pins : List (Addr × Obj)) (σ : St) (H : Hp) (s : Shared) (e : Value) (s' : Shared), Inv X pins σ H s → CX X.stack H s E e s' → X.xe e s'

section
variable {X : Cx} {CX : CXT} {k : Nat} {f C : Addr} {fd : FuncData} {ps : List Str} {sp : Sp} {dvs : List V} {ds : List Value} {E : XK} {x m : Str} {p pos apos : Pos} {e o : Expr} {es : List Expr} {ta : TE} {t : TA}

/-- the callee runs -/
theorem run_fn {pins : List (Addr × Obj)} {σ : St} {H : Hp} {s : Shared} {Q : VK} {us : List Value} {vs : List V} (F : FnOk X.prog X.w X.K X.mg X.base CX k f fd ps sp) (hr : Room k X.A) (hb : Binds X.K fd ps ds) (hd : Vals dvs ds) (hx : Passes CX X E)
    (I : Inv X pins σ H s) (r : Vals vs us) (h : sp (vs ++ dvs) H Q E) : wpAny (model X.prog X.w) X.A (call (.ref f) us) (EP X pins σ Q) X.xe s := by
  have r2 : Vals (vs ++ dvs) (us ++ ds) := r.append hd
  have hl : (us ++ ds).length = ps.length := by rw [← r2.length]; exact F.len _ _ _ _ h
  refine wpAny_call (codeAny_mono (F.run X.A X.stack s H ⟨us, []⟩ (us ++ ds) (vs ++ dvs) Q E hr I.env0 (hb s us I.kIn hl) r2 h) fun r s' hq => ?_)
  cases r with
  | error e => exact hx pins σ H s e s' I hq
  | ok fl =>
    cases fl with
    | ret u => exact I.after hq
    | next => exact False.elim hq
    | brk => exact False.elim hq
    | cont => exact False.elim hq

theorem pe_call (F : FnOk X.prog X.w X.K X.mg X.base CX k f fd ps sp) (hr : Room k X.A) (hg : Gl X x) (hm : X.mg x = some (.ref f)) (hk : PySem.W.keepIn X.K (.ref f) = true) (hb : Binds X.K fd ps ds) (hd : Vals dvs ds) (hx : Passes CX X E)
    (ha : PA X (e :: es) t) (hdb : (x == ("__debug__" : Str)) = false := by decide) (he : starEach (e :: es) X.env = (false, eval e X.env) :: starEach es X.env := by rfl) (hpl : (backTo pos (starEach es X.env)).any (·.1) = false := by rfl) :
    PE X (.Call (.Name x p) (e :: es) [] pos) (tCall sp dvs E t) := by
  intro pins s σ H Q I h
  refine wpAny_Call_Name_kw (ld_glob I hg hm ?_ hdb)
  refine PySem.W.callWith_K (h₀ := X.base) I.ok.mod.kin hk (thn (ha pos pins s σ H _ I h) fun us s1 ⟨vs, H1, I1, r, q⟩ => ⟨I1.kIn, ?_⟩) he hpl
  exact run_fn F hr hb hd hx I1 r q
end

/-! ### keywords -/
section
variable {X : Cx} {CX : CXT} {k : Nat} {f C : Addr} {fd : FuncData} {ps ks : List Str} {sp : Sp} {E : XK} {x m : Str} {p pos apos kpos : Pos} {e o : Expr} {es : List Expr} {kws : List Keyword} {te ta : TE} {t tk : TA} {nm : Option Str}
variable {g : List Value → List Value → List Value} {gV : List V → List V → List V}
end

/-! ### a def's body keeps its promise -/
/-- names: the parameters first -/
structure FnScope (N P : List Str) (sc : Scope) : Prop where
  kind : sc.kind = .function
  co : sc.isCoroutine = false
  gen : sc.isGenerator = false
  nd : N.Nodup
  pre : N.take P.length = P
  par : ∀ x ∈ P, sc.names.lookup x = some .local ∨ sc.names.lookup x = some .cell
  nofree : ∀ y ∈ sc.names, y.2 ≠ .free

theorem bindL_out {kindOf : Str → Option NameKind} {x : Str} : ∀ {binds : List (Str × Value)} {m : Str → Option Value}, (∀ v, (x, v) ∉ binds) → bindL kindOf binds m x = m x
  | [], _, _ => rfl
  | (n, v) :: r, m, h => by
    unfold bindL
    rw [bindL_out fun w hw => h w (List.mem_cons_of_mem _ hw)]
    split
    · have : x ≠ n := by rintro rfl; exact h v List.mem_cons_self
      simp [this]
    · rfl
theorem bindC_out {kindOf : Str → Option NameKind} {x : Str} : ∀ {binds : List (Str × Value)} {m : Str → Option Value}, (∀ v, (x, v) ∉ binds) → bindC kindOf binds m x = m x
  | [], _, _ => rfl
  | (n, v) :: r, m, h => by
    unfold bindC
    rw [bindC_out fun w hw => h w (List.mem_cons_of_mem _ hw)]
    split
    · rfl
    · have : x ≠ n := by rintro rfl; exact h v List.mem_cons_self
      simp [this]
theorem bindL_get {kindOf : Str → Option NameKind} {x : Str} {v : Value} : ∀ {P : List Str} {vs : List Value} {i : Nat} {m : Str → Option Value}, P.Nodup → P[i]? = some x → vs[i]? = some v → kindOf x = some .local →
    bindL kindOf (P.zip vs) m x = some v
  | [], _, _, _, _, h, _, _ => by simp at h
  | _ :: _, [], _, _, _, _, h, _ => by simp at h
  | p :: P, w :: vs, 0, m, nd, h1, h2, hk => by
    simp at h1 h2; subst h1; subst h2
    show bindL kindOf ((p, w) :: P.zip vs) m p = _
    unfold bindL
    rw [bindL_out fun v hv => (List.nodup_cons.mp nd).1 (List.of_mem_zip hv).1, if_pos hk]
    simp
  | p :: P, w :: vs, i + 1, m, nd, h1, h2, hk => by
    show bindL kindOf ((p, w) :: P.zip vs) m x = _
    unfold bindL
    exact bindL_get (i := i) (List.nodup_cons.mp nd).2 (by simpa using h1) (by simpa using h2) hk
theorem bindC_get {kindOf : Str → Option NameKind} {x : Str} {v : Value} : ∀ {P : List Str} {vs : List Value} {i : Nat} {m : Str → Option Value}, P.Nodup → P[i]? = some x → vs[i]? = some v → kindOf x ≠ some .local →
    bindC kindOf (P.zip vs) m x = some v
  | [], _, _, _, _, h, _, _ => by simp at h
  | _ :: _, [], _, _, _, _, h, _ => by simp at h
  | p :: P, w :: vs, 0, m, nd, h1, h2, hk => by
    simp at h1 h2; subst h1; subst h2
    show bindC kindOf ((p, w) :: P.zip vs) m p = _
    unfold bindC
    rw [bindC_out fun v hv => (List.nodup_cons.mp nd).1 (List.of_mem_zip hv).1, if_neg hk]
    simp
  | p :: P, w :: vs, i + 1, m, nd, h1, h2, hk => by
    show bindC kindOf ((p, w) :: P.zip vs) m x = _
    unfold bindC
    exact bindC_get (i := i) (List.nodup_cons.mp nd).2 (by simpa using h1) (by simpa using h2) hk

/-- the names' values at the entry -/
def start (N : List Str) (vs : List V) : St := vs.map some ++ List.replicate (N.length - vs.length) none

/-- the context of a def's body, at its entry; an exception leaves the frame, then lies as CX says -/
def cxOf (CX : CXT) (P : Program) (w : World) (K : PySem.W.Frag) (mg : Str → Option Value) (base : Heap) (N : List Str) (qual : Str) (scope : Scope) (f : Addr) (cd : Value) (A : Around) (outer : List Env) (s : Shared) (H : Hp) (E : XK) : Cx where
  prog := P
  w := w
  K := K
  mg := mg
  base := base
  A := A.deeper (envOfC qual scope s.heap.objs.size f cd)
  N := N
  s₀ := s
  H₀ := H
  env := envOfC qual scope s.heap.objs.size f cd
  outer := outer
  stack := envOfC qual scope s.heap.objs.size f cd :: outer
  ex := []
  calm := true
  fn := fun _ => true
  pn := []
  xe := fun e s' => wpAny (model P w) (A.deeper (envOfC qual scope s.heap.objs.size f cd)) (leaving (envOfC qual scope s.heap.objs.size f cd) e) (fun _ s'' => CX outer H s E e s'') (fun e' s'' => CX outer H s E e' s'') s'

theorem cell_has {sc : Scope} {n : Nat} {x : Str} (h : sc.names.lookup x = some .cell) : ∃ c, (cellsFrom n sc.names []).lookup x = some c := by
  have q := PySem.W.cellsFrom_some sc.names n [] (.inl h)
  exact Option.isSome_iff_exists.mp q

theorem inv_start {CX : CXT} {P : Program} {w : World} {K : PySem.W.Frag} {mg : Str → Option Value} {base : Heap} {N ps : List Str} {qual : Str} {scope : Scope} {f : Addr} {cd : Value} {A : Around} {outer : List Env} {s s1 : Shared} {H : Hp} {E : XK} {us : List Value} {vs : List V}
    (S : FnScope N ps scope) (hd : A.handled = none) (e0 : Env0 P w K mg base A outer s H) (hl : vs.length = ps.length) (r : Vals vs us)
    (x : InCallC s s.heap.objs.size (bindL (envOfC qual scope s.heap.objs.size f cd).kindOf (ps.zip us) fun _ => none) (cellsFrom (s.heap.objs.size + 1) scope.names []) (bindC (envOfC qual scope s.heap.objs.size f cd).kindOf (ps.zip us) fun _ => none) s1) :
    Inv (cxOf CX P w K mg base N qual scope f cd A outer s H E) [] (start N vs) H s1 := by
  have hpl : ps.length ≤ N.length := by have := congrArg List.length S.pre; rw [List.length_take] at this; omega
  obtain ⟨h1, tk, rfl, hk⟩ := x.done
  have noA : ∀ b : Addr, b ∉ (cxOf CX P w K mg base N qual scope f cd A outer s H E).ex := fun b z => absurd (show b ∈ ([] : List Addr) from z) (by simp)
  refine ⟨⟨e0.mod, S.kind, rfl, rfl, Nat.le_refl _, fun y z c h1 h2 => ?_, fun y hy => ?_, fun y c _ h => ?_, fun _ => hd, Around.frames_deeper e0.frames, .inr ⟨rfl, rfl⟩, fun b z => absurd z (noA b), e0.bs, e0.bsz, fun b _ _ => noA b, fun b z => absurd z (noA b), e0.funs, e0.frf⟩,
    rfl, e0.bare, Un.kept hk, ⟨_, x.toInCall.ns, fun i y v h1 h2 h3 => ?_⟩, fun y c h => ⟨_, x.cell y c h⟩, e0.hok.fresh (Nat.le_refl _), fun y c h => ?_, fun p hp => absurd (show p ∈ ([] : List (Addr × Obj)) from hp) (by simp), e0.hok.kept hk, ?_⟩
  · exact name_of_addr x.apart (PySem.mem_of_lookup h1) (PySem.mem_of_lookup h2)
  · have hy : scope.names.lookup y = some .cell ∨ scope.names.lookup y = some .free := hy
    rcases hy with hy | hy
    · exact cell_has hy
    · exact absurd rfl (S.nofree _ (PySem.mem_of_lookup hy))
  · exact Nat.le_of_lt (x.above y c (PySem.mem_of_lookup h))
  · have hi : i < vs.length := by
      unfold start at h2
      by_cases hi : i < vs.length
      · exact hi
      · rw [List.getElem?_append_right (by simpa using hi)] at h2
        rw [List.getElem?_replicate] at h2
        split at h2 <;> cases h2
    have ha : vs[i]? = some v := by
      unfold start at h2
      rw [List.getElem?_append_left (by simpa using hi), List.getElem?_map] at h2
      cases e : vs[i]? with
      | none => rw [e] at h2; cases h2
      | some a => rw [e] at h2; cases h2; rfl
    obtain ⟨u, hu, rv⟩ := r.get ha
    have hp : ps[i]? = some y := by
      rw [← S.pre, List.getElem?_take_of_lt (by omega)]; exact h1
    have ndP : ps.Nodup := by rw [← S.pre]; exact S.nd.sublist (List.take_sublist _ _)
    refine ⟨u, rv, ?_⟩
    rcases S.par y (List.mem_of_getElem? hp) with k | k
    · exact .inl ⟨k, bindL_get ndP hp hu k⟩
    · obtain ⟨c, e⟩ := cell_has (n := s.heap.objs.size + 1) k
      refine .inr ⟨.inl k, c, e, ?_⟩
      have q := x.cell y c e
      rw [bindC_get ndP hp hu (by show scope.names.lookup y ≠ _; rw [k]; decide)] at q
      exact q
  · exact e0.hok.fresh (Nat.le_of_lt (x.above y c (PySem.mem_of_lookup h)))
  · unfold start
    show _ = N.length
    rw [List.length_append, List.length_map, List.length_replicate]
    omega

/-- THE RULE: a def (or a method) of the text, by its body. The body's reading t is chosen for each entry; it is run at the parameters' values -/
theorem fn_of {CX : CXT} {P : Program} {w : World} {K : PySem.W.Frag} {mg : Str → Option Value} {base : Heap} {k : Nat} {f : Addr} {name qual : Str} {params : Arguments} {body : List Stmt} {scope : Scope} {dV kV doc pm cdv ct oc : Value} {an od : Option Addr}
    {osl : Array (Option Value)} {N ps : List Str} {sp : Sp} (lk : K.lookup f = some ⟨oc, od, .func (PySem.W.fnOf name qual params body scope dV kV doc pm an cdv ct), osl⟩) (hcd : PySem.W.codeIn K cdv qual = true) (S : FnScope N ps scope)
    (len : ∀ vs H Q E, sp vs H Q E → vs.length = ps.length)
    (hbody : ∀ (A : Around) (outer : List Env) (s : Shared) (H : Hp) (vs : List V) (Q : VK) (E : XK), Room k (A.deeper (envOfC qual scope s.heap.objs.size f cdv)) → sp vs H Q E →
      ∃ t, PSs (cxOf CX P w K mg base N qual scope f cdv A outer s H E) body t ∧ t { nx := fun _ H' => Q .non H', rt := Q } (start N vs) H) :
    FnOk P w K mg base CX (k + 1) f (PySem.W.fnOf name qual params body scope dV kV doc pm an cdv ct) ps sp := by
  refine ⟨len, fun A outer s H args us vs Q E hr e0 hb r hsp => ?_⟩
  have hl := len _ _ _ _ hsp
  have KX : K.In s.heap := e0.mod.kin.keeps fun b o e => (e0.bs b o e).1
  have lim : s.heap.NoLimit := e0.mod.nolimit.keeps fun b o e => (e0.bs b o e).1
  have hkind : ∀ y ∈ ps.zip us, scope.names.lookup y.1 = some .local ∨ (scope.names.lookup y.1 = some .cell ∧ ((cellsFrom (s.heap.objs.size + 1) scope.names []).lookup y.1).isSome = true) := fun ⟨n, v⟩ hy => by
    rcases S.par n (List.of_mem_zip hy).1 with q | q
    · exact .inl q
    · exact .inr ⟨q, PySem.W.cellsFrom_some _ _ _ (.inl q)⟩
  refine codeAny_call_function hr.depth (KX _ _ lk) rfl S.co S.gen rfl (PySem.W.codeRec_of KX hcd) (hb _ _ _ _ ?_)
  refine wpAny_newFunctionEnv_cells S.kind hkind fun env he s1 x => ?_
  subst he
  refine ⟨lim.keeps x.toInCall.keep, codeAny_func ?_⟩
  obtain ⟨t, ht, hq⟩ := hbody A outer s H vs Q E (hr.deeper _) hsp
  have I : Inv (cxOf CX P w K mg base N qual scope f cdv A outer s H E) [] (start N vs) H s1 := inv_start S hr.hd e0 hl r x
  refine wpAny_mono (ht [] s1 (start N vs) H _ I hq) (fun fl s' hs => ?_) fun e s' hs => hs
  have fin : ∀ {σ' : St} {H' : Hp} {v : V} {u : Value}, Inv (cxOf CX P w K mg base N qual scope f cdv A outer s H E) [] σ' H' s' → RelV v u → Q v H' → CE outer P w H s Q u s' :=
    fun {σ' H' v u} J rv q => ⟨v, H', J.os, J.bare, J.base, J.hok, rv, q⟩
  cases fl with
  | ret u =>
    obtain ⟨v, σ', H', J, rv, q⟩ := hs
    exact fin J rv q
  | next =>
    obtain ⟨σ', H', J, q⟩ := hs
    exact fin (v := V.non) (u := Value.none) J rfl q
  | brk =>
    obtain ⟨_, _, _, q⟩ := hs
    exact False.elim q
  | cont =>
    obtain ⟨_, _, _, q⟩ := hs
    exact False.elim q
end L2

namespace L2
open PySem PySem.Spec PyProof.Rows
section
variable {X : Cx} {x : Str} {p pos : Pos} {e : Expr} {es : List Expr} {t : TA} {id T : String} {r : List V → Hp → VK → Prop}

def tCB (r : List V → Hp → VK → Prop) (t : TA) : TE := fun σ H Q => t σ H fun vs H1 => r vs H1 Q
/-- f(e, ..), f a built-in function -/
theorem pe_callB (hc : CallR X (.builtin id) r) (hg : Gl X x) (hm : X.mg x = none) (hv : bootBuiltins x = some (.builtin id)) (ha : PA X (e :: es) t) (hn : x ≠ "__name__" := by decide) (hdb : (x == ("__debug__" : Str)) = false := by decide)
    (he : starEach (e :: es) X.env = (false, eval e X.env) :: starEach es X.env := by rfl) (hpl : (backTo pos (starEach es X.env)).any (·.1) = false := by rfl) : PE X (.Call (.Name x p) (e :: es) [] pos) (tCB r t) := by
  intro pins s σ H Q I h
  refine wpAny_Call_Name_kw (ld_blt I hg hm hv ?_ hn hdb)
  exact PyProof.Rows.callWith_builtin1 (thn (ha pos pins s σ H _ I h) fun us s1 ⟨vs, H1, I1, r1, q1⟩ => hc pins s1 σ H1 vs us Q I1 r1 q1) he hpl
/-- T(e, ..), T a built-in type -/
theorem pe_callTy (hc : CallR X (.type T) r) (hg : Gl X x) (hm : X.mg x = none) (hv : bootBuiltins x = some (.type T)) (ha : PA X (e :: es) t) (hn : x ≠ "__name__" := by decide) (hdb : (x == ("__debug__" : Str)) = false := by decide)
    (he : starEach (e :: es) X.env = (false, eval e X.env) :: starEach es X.env := by rfl) (hpl : (backTo pos (starEach es X.env)).any (·.1) = false := by rfl) : PE X (.Call (.Name x p) (e :: es) [] pos) (tCB r t) := by
  intro pins s σ H Q I h
  refine wpAny_Call_Name_kw (ld_blt I hg hm hv ?_ hn hdb)
  exact PyProof.Rows.callWith_type1 (thn (ha pos pins s σ H _ I h) fun us s1 ⟨vs, H1, I1, r1, q1⟩ => hc pins s1 σ H1 vs us Q I1 r1 q1) he hpl
end
end L2

namespace HT
open PySem PyProof.Rows

section
open PySem.SeqAt
open PySem.AutoSeq1 (wpAny_loadPart')
open PySem.MeetsSeq PySem.MeetsSeq2 PySem.MeetsSeq3

end

section
variable {prog : Program} {w : World} {A : Around} {E : Value → Shared → Prop} {s : Shared}

/-- t + u, t not empty -/
theorem cat_tup {t b : Addr} {vs ws : List Value} {Q : Value → Shared → Prop} (ht : IsTup s.heap t vs.toArray) (hb : IsTup s.heap b ws.toArray) (hv : vs ≠ [])
    (h1 : ws = [] → Q (.ref t) s) (h2 : ws ≠ [] → Q (.ref s.heap.objs.size) { s with heap := s.heap.push { cls := .type "tuple", data := .seq (vs ++ ws).toArray } })
    (hsz : vs.length + ws.length ≤ sizeLine) : wpAny (model prog w) A (binaryOp .Add (.ref t) (.ref b)) Q E s := by
  obtain ⟨⟨cls, dd, data, sl⟩, ho, hc, n, hd⟩ := id ht
  obtain ⟨⟨cls2, dd2, data2, sl2⟩, ho2, hc2, n2, hd2⟩ := id hb
  simp only at hc hd hc2 hd2
  subst hc hd hc2 hd2
  have e : vs.toArray ++ ws.toArray = (vs ++ ws).toArray := by simp
  by_cases hw : ws = []
  · exact concat_meets ⟨_, ho, rfl⟩ ⟨_, ho2, rfl⟩ noFill_tuple_add seq_tuple_add PySem.F.slot_tuple_add PySem.F.entry_tuple_add (PySem.F.args_tuple_add_2 _ _)
      (tuple_addW1 t b vs.toArray ws.toArray n n2 dd dd2 sl sl2 (by simpa using hv) (by simp [hw])) ⟨ho, ho2, h1 hw⟩
  · refine concat_meets ⟨_, ho, rfl⟩ ⟨_, ho2, rfl⟩ noFill_tuple_add seq_tuple_add PySem.F.slot_tuple_add PySem.F.entry_tuple_add (PySem.F.args_tuple_add_2 _ _)
      (tuple_addW2 t b vs.toArray ws.toArray n n2 dd dd2 sl sl2 (by simpa using hv) (by simpa using hw) (by rw [List.size_toArray, List.size_toArray]; exact hsz)) ⟨ho, ho2, ?_⟩
    rw [e]
    exact h2 hw

/-! ### t[a:b], not the whole -/
/-- a slice's bound as a place among n (d where it is left out) -/
def sIx (n d : Nat) : Option Int → Nat
  | none => d
  | some v => if v < 0 then (v + (n : Int)).toNat else min v.toNat n
theorem sIx_none (n d : Nat) : sIx n d none = d := rfl
theorem sIx_nat (n d k : Nat) : sIx n d (some (k : Int)) = min k n := by
  show (if (k : Int) < 0 then ((k : Int) + (n : Int)).toNat else min (k : Int).toNat n) = min k n
  rw [if_neg (by omega), Int.toNat_natCast]
theorem sIx_le (n d : Nat) (hd : d ≤ n) (o : Option Int) : sIx n d o ≤ n := by
  cases o with
  | none => exact hd
  | some v =>
    show (if v < 0 then (v + (n : Int)).toNat else min v.toNat n) ≤ n
    by_cases hv : v < 0
    · rw [if_pos hv]; omega
    · rw [if_neg hv]; exact Nat.min_le_right _ _
end
end HT

namespace L2
open PySem PySem.Spec PyProof.Rows

/-! ### the parts of a slice -/
abbrev TO := St → Hp → (Option Int → Hp → Prop) → Prop
/-- a slice's part (left out, or an int) -/
def PO (X : Cx) (e : Option Expr) (t : TO) : Prop :=
  ∀ (pins : List (Addr × Obj)) (s : Shared) (σ : St) (H : Hp) (Q : Option Int → Hp → Prop), Inv X pins σ H s → t σ H Q →
    wpAny (model X.prog X.w) X.A (evalPart e X.env) (fun u s' => ∃ o H', Inv X pins σ H' s' ∧ IsPart u o ∧ Q o H') X.xe s
def tNoPart : TO := fun _ H Q => Q none H
def tPart (t : TE) : TO := fun σ H Q => t σ H fun x H1 => ∃ i, x = .int i ∧ Q (some i) H1

section
variable {X : Cx} {e : Expr} {te : TE} {lo hi : Option Expr} {tl th : TO} {pos p2 : Pos}

theorem po_none : PO X none tNoPart := by
  intro pins s σ H Q I h
  rw [evalPart_none]
  exact wpAny_pure ⟨none, H, I, .none, h⟩
theorem po_some (h : PE X e te) : PO X (some e) (tPart te) := by
  intro pins s σ H Q I hw
  rw [evalPart_some]
  refine thn (h pins s σ H _ I hw) fun u s1 ⟨x, H1, I1, r1, q1⟩ => ?_
  obtain ⟨i, rfl, q⟩ := q1
  obtain ⟨t, rfl⟩ := r1
  exact ⟨some i, H1, I1, .int i t, q⟩

/-- what a slice of a value is, by values: the slice object stands at sl -/
def SlR (X : Cx) (r : V → Option Int → Option Int → Hp → VK → Prop) : Prop :=
  ∀ (pins : List (Addr × Obj)) (s : Shared) (σ : St) (H : Hp) (x : V) (v vl vu : Value) (lo hi : Option Int) (sl : Addr) (Q : VK), Inv X pins σ H s → RelV x v → s.heap.IsSliceOf sl vl vu .none → IsPart vl lo → IsPart vu hi → r x lo hi H Q →
    ∃ T id, typeLookup (.type T) "__getitem__" = pure (some (.builtin id)) ∧ s.TypeIs v T ∧ wpAny (model X.prog X.w) X.A (getItem v (.ref sl)) (EP X pins σ Q) X.xe s
def tSl (r : V → Option Int → Option Int → Hp → VK → Prop) (te : TE) (tl th : TO) : TE := fun σ H Q => te σ H fun x H1 => tl σ H1 fun l H2 => th σ H2 fun u H3 => r x l u H3 Q
/-- a[lo:hi], any a -/
theorem pe_slice {r : V → Option Int → Option Int → Hp → VK → Prop} (hr : SlR X r) (he : PE X e te) (hl : PO X lo tl) (hu : PO X hi th) : PE X (.Subscript e (.Slice lo hi none p2) pos) (tSl r te tl th) := by
  intro pins s σ H Q I h
  refine Subscript_ (thn (he pins s σ H _ I h) fun v s1 ⟨x, H1, I1, r1, q1⟩ => ?_)
  refine wpAny_Slice (thn (hl pins s1 σ H1 _ I1 q1) fun vl s2 ⟨l, H2, I2, pl, q2⟩ => thn (hu pins s2 σ H2 _ I2 q2) fun vu s3 ⟨u, H3, I3, pu, q3⟩ => ?_)
  rw [evalPart_none]
  refine wpAny_pure ?_
  have I4 : Inv X pins σ H3 { s3 with heap := s3.heap.push { cls := .type "slice", data := .fields #[vl, vu, .none] } } := I3.kept (t' := s3.toks) fun b ob q => Heap.get?_push_of_some _ q
  obtain ⟨T, id, hT, ht, hg⟩ := hr pins { s3 with heap := s3.heap.push { cls := .type "slice", data := .fields #[vl, vu, .none] } } σ H3 x v vl vu l u s3.heap.objs.size Q I4 r1 (Heap.IsSliceOf.new ..) pl pu q3
  show wpAny (model X.prog X.w) X.A (subscriptTail e (.Slice lo hi none p2) v (.ref s3.heap.objs.size)) (EP X pins σ Q) X.xe { s3 with heap := s3.heap.push { cls := .type "slice", data := .fields #[vl, vu, .none] } }
  exact tail_any (ops := [.ref s3.heap.objs.size, v]) ht hT hg (by with_unfolding_all rfl)

/-- the items of xs[lo:hi] -/
def cutV (xs : List V) (lo hi : Option Int) : List V := (xs.drop (HT.sIx xs.length 0 lo)).take (HT.sIx xs.length xs.length hi - HT.sIx xs.length 0 lo)
theorem cutV_length (xs : List V) (lo hi : Option Int) : (cutV xs lo hi).length ≤ xs.length := by
  unfold cutV
  rw [List.length_take, List.length_drop]
  omega
/-! ### t < u, t + u -/
/-- t + u, t not empty: u empty gives t itself -/
def rCatT (K : PySem.W.Frag) : R2 := fun x y H Q => ∃ a b xs ys, x = .ref a ∧ y = .ref b ∧ SqT K H a xs ∧ SqT K H b ys ∧ xs ≠ [] ∧ xs.length + ys.length ≤ sizeLine ∧
  (ys = [] → Q (.ref a) H) ∧ (ys ≠ [] → ∀ p, H p = none → Q (.ref p) (upd H p (.tup (xs ++ ys))))
theorem Vals.nil_iff {xs : List V} {us : List Value} (r : Vals xs us) : us = [] ↔ xs = [] := by
  cases r with
  | nil => simp
  | cons _ _ => simp
theorem op_catT : OpR X (binaryOp .Add) (rCatT X.K) := by
  intro pins s σ H x y v u Q I rx ry h
  obtain ⟨a, b, xs, ys, rfl, rfl, ha, hb, hx, hz, q1, q2⟩ := h
  cases rx
  cases ry
  obtain ⟨its, r1, p1, _⟩ := I.tuple ha
  obtain ⟨its2, r2, p2, _⟩ := I.tuple hb
  refine HT.cat_tup p1 p2 (fun z => hx (r1.nil_iff.mp z)) (fun z => ⟨.ref a, H, I, rfl, q1 (r2.nil_iff.mp z)⟩) (fun z => ?_) (by rw [← r1.length, ← r2.length]; exact hz)
  refine ⟨.ref s.heap.objs.size, _, I.laid (t' := s.toks) (o := .tup (xs ++ ys)) (fun b ob q => Heap.get?_push_of_some _ q) (Nat.le_refl _) ?_, rfl, q2 (fun w => z (r2.nil_iff.mpr w)) _ (I.hok.fresh (Nat.le_refl _))⟩
  exact ⟨by rw [List.length_append]; exact hz, _, r1.append r2, IsTup.new _ _⟩
end
end L2

namespace L2
open PySem PySem.Spec PyProof.Rows

/-! ### places -/
/-- the place that an index of any sign means -/
def ixN (n : Nat) (i : Int) : Option Nat := if 0 ≤ i then (if i < n then some i.toNat else none) else if -(n : Int) ≤ i then some (i + n).toNat else none
def atI {α : Type} (xs : List α) (i : Int) : Option α := (ixN xs.length i).bind fun j => xs[j]?
theorem ixN_seq {n : Nat} {i : Int} {j : Nat} (h : ixN n i = some j) : seqIndex? i n = some j ∧ j < n ∧ -(n : Int) ≤ i ∧ i < n := by
  unfold ixN at h
  by_cases h0 : 0 ≤ i
  · rw [if_pos h0] at h
    by_cases h1 : i < n
    · rw [if_pos h1] at h
      have e : i.toNat = j := Option.some.inj h
      exact ⟨by rw [seqIndex_of h0 h1, e], by omega, by omega, h1⟩
    · rw [if_neg h1] at h; cases h
  · rw [if_neg h0] at h
    by_cases h1 : -(n : Int) ≤ i
    · rw [if_pos h1] at h
      have e : (i + n).toNat = j := Option.some.inj h
      exact ⟨by rw [seqIndex_neg (by omega) h1, e], by omega, h1, by omega⟩
    · rw [if_neg h1] at h; cases h
theorem atI_get {α : Type} {xs : List α} {i : Int} {v : α} (h : atI xs i = some v) : ∃ j, seqIndex? i xs.length = some j ∧ xs[j]? = some v ∧ j < xs.length ∧ -(xs.length : Int) ≤ i ∧ i < xs.length := by
  unfold atI at h
  cases e : ixN xs.length i with
  | none => rw [e] at h; cases h
  | some j =>
    rw [e] at h
    obtain ⟨h1, h2, h3, h4⟩ := ixN_seq e
    exact ⟨j, h1, h, h2, h3, h4⟩
theorem atI_nat {α : Type} {xs : List α} {j : Nat} {v : α} (h : xs[j]? = some v) : atI xs (j : Int) = some v := by
  have hj : j < xs.length := (List.getElem?_eq_some_iff.mp h).1
  have e : ixN xs.length (j : Int) = some j := by
    unfold ixN
    rw [if_pos (by omega), if_pos (by omega)]; simp
  unfold atI; rw [e]; exact h
/-! ### what may be subscripted -/
/-- what stands as an index of a plain subscript -/
def PlainIx (b : Expr) : Prop := ∀ o i, subscripted b false o i = operate [o, i] (getItem o i)
/-- a subscript by values -/
def IxR (X : Cx) (r : R2) : Prop :=
  ∀ (value slice : Expr) (pins : List (Addr × Obj)) (s : Shared) (σ : St) (H : Hp) (x y : V) (v u : Value) (Q : VK), Inv X pins σ H s → RelV x v → RelV y u → r x y H Q →
    subscripted slice false v u = operate [v, u] (getItem v u) → wpAny (model X.prog X.w) X.A (subscriptTail value slice v u) (EP X pins σ Q) X.xe s
/-- a call of a builtin's method by values: the receiver, the arguments -/
def MtR (X : Cx) (id : String) (r : V → List V → Hp → VK → Prop) : Prop :=
  ∀ (pins : List (Addr × Obj)) (s : Shared) (σ : St) (H : Hp) (x : V) (xs : List V) (v : Value) (us : List Value) (Q : VK), Inv X pins σ H s → RelV x v → Vals xs us → r x xs H Q →
    wpAny (model X.prog X.w) X.A (call (.builtin id) (v :: us)) (EP X pins σ Q) X.xe s
section
variable {X : Cx} {a b : Expr} {ta tb : TE} {pos : Pos}
/-- a[b] -/
theorem pe_ix {r : R2} (hr : IxR X r) (ha : PE X a ta) (hb : PE X b tb) (hs : PlainIx b) : PE X (.Subscript a b pos) (tOp r ta tb) := by
  intro pins s σ H Q I h
  exact Subscript_ (binT ha hb I h fun v u s2 x y H2 I2 rx ry q => hr a b pins s2 σ H2 x y v u Q I2 rx ry q (hs _ _))

def rIxL (K : PySem.W.Frag) : R2 := fun x y H Q => ∃ p xs i v, x = .ref p ∧ y = .int i ∧ SqL K H p xs ∧ atI xs i = some v ∧ Q v H
def rIxT (K : PySem.W.Frag) : R2 := fun x y H Q => ∃ p xs i v, x = .ref p ∧ y = .int i ∧ SqT K H p xs ∧ atI xs i = some v ∧ Q v H
def rIxS : R2 := fun x y H Q => ∃ z i c, x = .str z ∧ y = .int i ∧ z.length ≤ sizeLine ∧ atI z.cps.toList i = some c ∧ Q (.str ⟨#[c]⟩) H
theorem ix_list : IxR X (rIxL X.K) := by
  intro value slice pins s σ H x y v u Q I rx ry h hs
  obtain ⟨p, xs, i, z, rfl, rfl, hq, he, q⟩ := h
  cases rx
  obtain ⟨t, rfl⟩ := ry
  obtain ⟨its, r, pl, hz⟩ := I.list hq
  obtain ⟨j, h1, h2, h3, h4, h5⟩ := atI_get he
  obtain ⟨w, ew, rw'⟩ := r.get h2
  have hl := r.length
  have hn := line63
  have fin : EP X pins σ Q w s := ⟨z, H, I, rw', q⟩
  by_cases h0 : 0 ≤ i
  · have hj : i.toNat = j := by
      rw [seqIndex_of h0 h5] at h1
      exact Option.some.inj h1
    exact item_listR pl.isList h0 (by omega) (by rw [hj]; simpa using ew) fin hs
  · have hj : (i + (its.toArray.size : Int)).toNat = j := by
      rw [seqIndex_neg (by omega) h4] at h1
      rw [List.size_toArray, ← hl]
      exact Option.some.inj h1
    exact subscriptTail_builtinR (x := w) pl.isList.typeIs slot_list_getitem.lookup
      (wpAny_getItem_list_neg (Q := fun r s' => r = w ∧ EP X pins σ Q r s') pl.isList (by omega) (by rw [List.size_toArray] <;> omega) (by omega) (by rw [hj]; simpa using ew) ⟨rfl, fin⟩) hs
theorem ix_tup : IxR X (rIxT X.K) := by
  intro value slice pins s σ H x y v u Q I rx ry h hs
  obtain ⟨p, xs, i, z, rfl, rfl, hq, he, q⟩ := h
  cases rx
  obtain ⟨t, rfl⟩ := ry
  obtain ⟨its, r, pl, hz⟩ := I.tuple hq
  obtain ⟨j, h1, h2, h3, h4, h5⟩ := atI_get he
  obtain ⟨w, ew, rw'⟩ := r.get h2
  have hl := r.length
  have hn := line63
  have fin : EP X pins σ Q w s := ⟨z, H, I, rw', q⟩
  exact subscriptTail_builtinR (x := w) pl.typeIs slot_tuple_getitem.lookup
    (getItem_tuple (j := j) (Q := fun r s' => r = w ∧ EP X pins σ Q r s') pl (by omega) (by omega) (by rw [List.size_toArray, ← hl]; exact h1) (by simpa using ew) ⟨rfl, fin⟩) hs
theorem ix_str : IxR X rIxS := by
  intro value slice pins s σ H x y v u Q I rx ry h hs
  obtain ⟨z, i, c, rfl, rfl, hz, he, q⟩ := h
  obtain ⟨t, rfl⟩ := rx
  obtain ⟨t', rfl⟩ := ry
  obtain ⟨j, h1, h2, h3, h4, h5⟩ := atI_get he
  have hl : z.cps.toList.length = z.length := by simp [Str.length]
  rw [hl] at h1 h4 h5
  have hn := line63
  exact tail_any (typeIs_str s z t) slot_str_getitem.lookup (getItem_str (c := c) (by
    have e1 : decide (i < -(2 ^ 63 : Int)) = false := decide_eq_false (by omega)
    have e2 : decide (i ≥ 2 ^ 63) = false := decide_eq_false (by omega)
    rw [e1, e2, Bool.or_false]) (by rw [h1]; simpa using h2) ⟨.str ⟨#[c]⟩, H, I.tok _, ⟨_, rfl⟩, q⟩) hs
/-! ### xs[i] = v, any sign -/
/-- the list's object behind a store -/
theorem mapSeq_set (its : List Value) (n j : Nat) (u : Value) : Obj.mapSeq (·.setIfInBounds j u) { cls := .type "list", data := .seq its.toArray n } = { cls := .type "list", data := .seq (its.set j u).toArray n } := by
  simp [Obj.mapSeq]
theorem Inv.lst {pins : List (Addr × Obj)} {σ : St} {H : Hp} {s : Shared} {p : Addr} {xs : List V} (I : Inv X pins σ H s) (h : H p = some (.lst xs)) :
    ∃ (its : List Value) (n : Nat), Vals xs its ∧ s.heap.get? p = some { cls := .type "list", data := .seq its.toArray n } ∧ xs.length ≤ sizeLine := by
  obtain ⟨z, its, n, r, e⟩ := I.hok p _ h
  exact ⟨its, n, r, e, z⟩
/-- the list at p is written by an update of its object -/
theorem Inv.lstUpd {pins : List (Addr × Obj)} {σ : St} {H : Hp} {s : Shared} {p : Addr} {xs ys : List V} {its its' : List Value} {n n' : Nat} {f : Obj → Obj} (I : Inv X pins σ H s) (h : H p = some (.lst xs))
    (ho : s.heap.get? p = some { cls := .type "list", data := .seq its.toArray n }) (hf : f { cls := .type "list", data := .seq its.toArray n } = { cls := .type "list", data := .seq its'.toArray n' }) (r : Vals ys its') (hz : ys.length ≤ sizeLine) (t : Nat) :
    Inv X pins σ (upd H p (.lst ys)) { s with heap := s.heap.update p f, toks := t } := by
  have e : (s.heap.update p f).get? p = some { cls := .type "list", data := .seq its'.toArray n' } := by
    rw [Heap.get?_update_self f ho (by rw [hf] <;> rfl), hf]
  refine I.write (x := p) (e := p) (by rw [h]; trivial) (.inl rfl) (fun b u hb q => (Heap.get?_update_other _ _ (Ne.symm hb)).trans q) ⟨_, e⟩ ?_
  exact ⟨hz, its', n', r, e⟩
def rSetL : V → V → V → Hp → (Hp → Prop) → Prop := fun o i v H Q => ∃ p xs k j, o = .ref p ∧ i = .int k ∧ H p = some (.lst xs) ∧ ixN xs.length k = some j ∧ Q (upd H p (.lst (xs.set j v)))
theorem set_list : PSet X rSetL := by
  intro pins s σ H o i v ov iv u Q I ro ri rv h
  obtain ⟨p, xs, k, j, rfl, rfl, hp, hj, q⟩ := h
  cases ro
  obtain ⟨t, rfl⟩ := ri
  obtain ⟨its, n, r, ho, hz⟩ := I.lst hp
  obtain ⟨h1, h2, h3, h4⟩ := ixN_seq hj
  have hl := r.length
  have hn := line63
  have I' : Inv X pins σ (upd H p (.lst (xs.set j v))) { s with heap := s.heap.update p (Obj.mapSeq (·.setIfInBounds j u)) } :=
    I.lstUpd hp ho (mapSeq_set its n j u) (r.set rv j) (by rw [List.length_set]; exact hz) s.toks
  by_cases h0 : 0 ≤ k
  · have hk : k.toNat = j := by
      rw [seqIndex_of h0 h4] at h1
      exact Option.some.inj h1
    exact PySem.W.ki_setAt ho h0 (by omega) (by rw [List.size_toArray, ← hl]; exact h4) (by rw [hk]; exact ⟨_, I', q⟩)
  · have hk : (k + (its.toArray.size : Int)).toNat = j := by
      rw [seqIndex_neg (by omega) h3] at h1
      rw [List.size_toArray, ← hl]
      exact Option.some.inj h1
    exact PySem.W.ki_setBack ho (by omega) (by rw [List.size_toArray, ← hl]; exact h3) (by omega) (by rw [hk]; exact ⟨_, I', q⟩)

/-! ### slices -/
/-! ### in, not in: flat items -/
def flatV : V → Bool
  | .non => true
  | .bl _ => true
  | .int _ => true
  | .str _ => true
  | _ => false
/-- == of flat values -/
def eqV : V → V → Bool
  | .non, .non => true
  | .bl a, .bl b => a == b
  | .bl a, .int b => (if a then 1 else 0) == b
  | .int a, .bl b => a == (if b then 1 else 0)
  | .int a, .int b => a == b
  | .str a, .str b => a == b
  | _, _ => false
theorem eqAt_V {A : Around} {s : Shared} {y x : V} {u v : Value} (ry : RelV y u) (rx : RelV x v) (fy : flatV y = true) (fx : flatV x = true) : SeqAt.EqAt A s u v (eqV y x) := by
  cases y with
  | non =>
    cases ry
    cases x with
    | non => cases rx; exact SeqAt.EqAt.same _
    | bl b => cases rx; exact SeqAt.EqAt.none_bool b
    | int b => obtain ⟨t, rfl⟩ := rx; exact SeqAt.EqAt.none_int b t
    | str b => obtain ⟨t, rfl⟩ := rx; exact SeqAt.EqAt.none_str b t
    | _ => exact absurd (show false = true from fx) Bool.false_ne_true
  | bl a =>
    cases ry
    cases x with
    | non => cases rx; exact SeqAt.EqAt.bool_none a
    | bl b => cases rx; exact SeqAt.EqAt.bool_bool a b
    | int b => obtain ⟨t, rfl⟩ := rx; exact SeqAt.EqAt.bool_int a b t
    | str b => obtain ⟨t, rfl⟩ := rx; exact SeqAt.EqAt.bool_str a b t
    | _ => exact absurd (show false = true from fx) Bool.false_ne_true
  | int a =>
    obtain ⟨t', rfl⟩ := ry
    cases x with
    | non => cases rx; exact SeqAt.EqAt.int_none a t'
    | bl b => cases rx; exact SeqAt.EqAt.int_bool a t' b
    | int b => obtain ⟨t, rfl⟩ := rx; exact SeqAt.EqAt.int_int a t' b t
    | str b => obtain ⟨t, rfl⟩ := rx; exact SeqAt.EqAt.int_str a t' b t
    | _ => exact absurd (show false = true from fx) Bool.false_ne_true
  | str a =>
    obtain ⟨t', rfl⟩ := ry
    cases x with
    | non => cases rx; exact SeqAt.EqAt.str_none a t'
    | bl b => cases rx; exact SeqAt.EqAt.str_bool a t' b
    | int b => obtain ⟨t, rfl⟩ := rx; exact SeqAt.EqAt.str_int a t' b t
    | str b => obtain ⟨t, rfl⟩ := rx; exact SeqAt.EqAt.str_str a t' b t
    | _ => exact absurd (show false = true from fx) Bool.false_ne_true
  | _ => exact absurd (show false = true from fy) Bool.false_ne_true
/-- the items' answers, read off the values (a value's own answer does not lean on its token) -/
def eqU (x : V) (u : Value) : Bool := match u with
  | .none => eqV .non x
  | .bool b => eqV (.bl b) x
  | .int i _ => eqV (.int i) x
  | .str z _ => eqV (.str z) x
  | _ => false
theorem eqU_of {x y : V} {u : Value} (r : RelV y u) (f : flatV y = true) : eqU x u = eqV y x := by
  cases y with
  | non => cases r; rfl
  | bl b => cases r; rfl
  | int i => obtain ⟨t, rfl⟩ := r; rfl
  | str z => obtain ⟨t, rfl⟩ := r; rfl
  | _ => exact absurd (show false = true from f) Bool.false_ne_true
theorem any_eqU {x : V} : ∀ {xs : List V} {us : List Value}, Vals xs us → xs.all flatV = true → us.any (eqU x) = xs.any fun y => eqV y x
  | _, _, .nil, _ => rfl
  | y :: xs, u :: us, .cons r t, f => by
    rw [List.all_cons, Bool.and_eq_true] at f
    rw [List.any_cons, List.any_cons, eqU_of r f.1, any_eqU t f.2]
theorem mem_eqAt {A : Around} {s : Shared} {x : V} {v : Value} (rx : RelV x v) (fx : flatV x = true) : ∀ {xs : List V} {us : List Value}, Vals xs us → xs.all flatV = true → ∀ u ∈ us, SeqAt.EqAt A s u v (eqU x u)
  | _, _, .nil, _ => fun u hu => by cases hu
  | y :: xs, u :: us, .cons r t, f => fun u' hu => by
    rw [List.all_cons, Bool.and_eq_true] at f
    rcases List.mem_cons.mp hu with rfl | hu
    · rw [eqU_of r f.1]; exact eqAt_V r rx f.1 fx
    · exact mem_eqAt rx fx t f.2 u' hu
def inV (x : V) (xs : List V) : Bool := xs.any fun y => eqV y x
/-- x in a list or tuple of flat items -/
def rIn (K : PySem.W.Frag) (neg : Bool) : R2 := fun x y H Q => ∃ p xs, y = .ref p ∧ (SqL K H p xs ∨ SqT K H p xs) ∧ flatV x = true ∧ xs.all flatV = true ∧ Q (.bl (if neg then !inV x xs else inV x xs)) H
theorem op_notIn_seq : OpR X (compareOp .NotIn) (rIn X.K true) := by
  intro pins s σ H x y v u Q I rx ry h
  obtain ⟨p, xs, rfl, hq, fx, fs, q⟩ := h
  cases ry
  rcases hq with hq | hq
  · obtain ⟨its, r, pl, hz⟩ := I.list hq
    refine SeqAt.notIn_listAt (eqU x) pl.isList (fun w hw => mem_eqAt rx fx r fs w (by simpa using hw)) ⟨.bl _, H, I, rfl, ?_⟩
    rw [show its.toArray.any (eqU x) = its.any (eqU x) by simp, any_eqU r fs]
    exact q
  · obtain ⟨its, r, pl, hz⟩ := I.tuple hq
    refine SeqAt.notIn_tupleAt (eqU x) pl (fun w hw => mem_eqAt rx fx r fs w (by simpa using hw)) ⟨.bl _, H, I, rfl, ?_⟩
    rw [show its.toArray.any (eqU x) = its.any (eqU x) by simp, any_eqU r fs]
    exact q
/-! ### len, list(x), tuple(x) of any list or tuple that is read -/
theorem call_len_seq : CallR X (.builtin "len") (fun xs H Q => ∃ p ys, xs = [.ref p] ∧ (SqL X.K H p ys ∨ SqT X.K H p ys) ∧ Q (.int ys.length) H) := by
  intro pins s σ H xs us Q I r h
  obtain ⟨p, ys, rfl, hq, q⟩ := h
  obtain ⟨u, rfl, rx⟩ := vals1 r
  cases rx
  have hn := line63
  rcases hq with hq | hq
  · obtain ⟨its, r', pl, hz⟩ := I.list hq
    have hlen := r'.length
    exact Calls.call_len_list pl.isList (by simp only [List.size_toArray] <;> omega) ⟨.int ys.length, H, I.tok _, ⟨s.toks + 1, by rw [List.size_toArray, hlen]⟩, q⟩
  · obtain ⟨its, r', pl, hz⟩ := I.tuple hq
    have hlen := r'.length
    exact len_tuple pl (by simp only [List.size_toArray] <;> omega) ⟨.int ys.length, H, I.tok _, ⟨s.toks + 1, by rw [List.size_toArray, hlen]⟩, q⟩
theorem call_len_str : CallR X (.builtin "len") (fun xs H Q => ∃ z, xs = [.str z] ∧ z.length ≤ sizeLine ∧ Q (.int z.length) H) := by
  intro pins s σ H xs us Q I r h
  obtain ⟨z, rfl, hz, q⟩ := h
  obtain ⟨u, rfl, t, rfl⟩ := vals1 r
  have hn := line63
  exact len_str (by omega) ⟨.int z.length, H, I.tok _, ⟨_, rfl⟩, q⟩
theorem call_tuple_of : CallR X (.type "tuple") (fun xs H Q => ∃ p ys, xs = [.ref p] ∧ ((SqL X.K H p ys ∧ ∀ l, H l = none → Q (.ref l) (upd H l (.tup ys))) ∨ (SqT X.K H p ys ∧ Q (.ref p) H))) := by
  intro pins s σ H xs us Q I r h
  obtain ⟨p, ys, rfl, h⟩ := h
  obtain ⟨u, rfl, rx⟩ := vals1 r
  cases rx
  rcases h with ⟨hq, q⟩ | ⟨hq, q⟩
  · obtain ⟨its, r', pl, hz⟩ := I.list hq
    have hlen := r'.length
    refine call_tuple_list pl.isList (fun h' kp => ?_) (by simp only [List.size_toArray] <;> omega)
    have I1 : Inv X pins σ H { s with heap := h' } := I.kept (t' := s.toks) kp
    have I2 : Inv X pins σ (upd H h'.objs.size (.tup ys)) { s with heap := h'.push { cls := .type "tuple", data := .seq its.toArray } } :=
      I1.laid (t' := s.toks) (fun b o e => Heap.get?_push_of_some _ e) (Nat.le_refl _) (show ObjOk X.prog X.w _ _ _ (.tup ys) from ⟨hz, its, r', IsTup.new _ _⟩)
    exact ⟨.ref h'.objs.size, _, I2, rfl, q _ (I1.hok.fresh (Nat.le_refl _))⟩
  · obtain ⟨its, r', pl, hz⟩ := I.tuple hq
    exact call_tuple_same pl ⟨.ref p, H, I, rfl, q⟩

/-! ### the call of a builtin's method: o.m(..) -/
/-- the value is of that builtin type -/
def tyV (K : PySem.W.Frag) (T : String) (x : V) (H : Hp) : Prop := match x with
  | .str _ => T = "str"
  | .int _ => T = "int"
  | .ref p => (T = "list" ∧ ∃ xs, SqL K H p xs) ∨ (T = "tuple" ∧ ∃ o, K.lookup p = some o ∧ o.cls = .type "tuple" ∧ o.dict = none) ∨
      (T = "dict" ∧ ((∃ kvs, H p = some (.dK kvs)) ∨ ∃ kvs, H p = some (.dT kvs))) ∨ (T = "set" ∧ ∃ S n, H p = some (.set S n))
  | _ => False
theorem tyV_is {pins : List (Addr × Obj)} {σ : St} {H : Hp} {s : Shared} {T : String} {x : V} {v : Value} (I : Inv X pins σ H s) (r : RelV x v) (ty : tyV X.K T x H) :
    s.TypeIs v T ∧ ∀ a, v = .ref a → ∃ ob, s.heap.get? a = some ob ∧ ob.dict = none := by
  cases x with
  | str z =>
    obtain ⟨t, rfl⟩ := r
    cases (show T = "str" from ty)
    exact ⟨typeIs_str s z t, fun _ e => nomatch e⟩
  | int i =>
    obtain ⟨t, rfl⟩ := r
    cases (show T = "int" from ty)
    exact ⟨typeIs_int s i t, fun _ e => nomatch e⟩
  | ref p =>
    cases r
    rcases ty with ⟨rfl, xs, hq⟩ | ⟨rfl, o, hk, hc, hd⟩ | ⟨rfl, hk⟩ | ⟨rfl, S, n, hk⟩
    · obtain ⟨its, _, pl, _⟩ := I.list hq
      refine ⟨pl.isList.typeIs, fun a e => ?_⟩
      cases e
      obtain ⟨o, n, e, c, hd, _⟩ := pl
      exact ⟨o, e, hd⟩
    · refine ⟨⟨o, I.kIn p o hk, hc⟩, fun a e => ?_⟩
      cases e
      exact ⟨o, I.kIn _ o hk, hd⟩
    · have z : ∃ o, s.heap.get? p = some o ∧ o.ExactDict := by
        rcases hk with ⟨kvs, hk⟩ | ⟨kvs, hk⟩
        · obtain ⟨_, _, _, _, o, _, _, e, ex, _⟩ := I.hok p _ hk
          exact ⟨o, e, ex⟩
        · exact False.elim (show ObjOk X.prog X.w H s.heap p (.dT kvs) from I.hok p _ hk)
      obtain ⟨o, e, ex⟩ := z
      refine ⟨⟨o, e, ex.1⟩, fun a e2 => ?_⟩
      cases e2
      exact ⟨o, e, ex.2.1⟩
    · obtain ⟨o, _, _, _, e, ex, _⟩ := I.hok p _ hk
      refine ⟨⟨o, e, ex.1⟩, fun a e2 => ?_⟩
      cases e2
      exact ⟨o, e, ex.2.1⟩
  | _ => exact False.elim ty
def tBM (K : PySem.W.Frag) (T : String) (r : V → List V → Hp → VK → Prop) (to : TE) (t : TA) : TE := fun σ H Q => to σ H fun x H1 => tyV K T x H1 ∧ t σ H1 fun xs H2 => r x xs H2 Q
variable {o e : Expr} {es : List Expr} {to : TE} {t : TA} {name : Str} {apos cpos : Pos} {T id : String} {r : V → List V → Hp → VK → Prop}
theorem pe_bm (pa : PlainAttrs T) (slot : Slot T name id) (hty : typeOf (.builtin id) = pure (.type "method_descriptor")) (hm : MtR X id r) (ho : PE X o to) (ha : PA X (e :: es) t)
    (hbase : attributeBase o name X.env (eval o X.env) = eval o X.env := by rfl)
    (hfew : ((backTo cpos (starEach (e :: es) X.env)).all (fun x => !x.1) && (backToKw cpos (keywordEach [] X.env)).all (fun x => x.1.isSome)
      && decide ((e :: es).length + ([] : List Keyword).length + (if ([] : List Keyword).isEmpty then 0 else 1) < 30)) = true := by rfl)
    (hline : (apos.endLine == cpos.line) = true := by rfl) (hs : starEach (e :: es) X.env = (false, eval e X.env) :: starEach es X.env := by rfl) (hplain : (backTo cpos (starEach es X.env)).any (·.1) = false := by rfl) :
    PE X (.Call (.Attribute o name apos) (e :: es) [] cpos) (tBM X.K T r to t) := by
  intro pins s σ H Q I h
  refine wpAny_Call_method_late hbase hfew hline rfl (thn (ho pins s σ H _ I h) fun v s1 ⟨x, H1, I1, r1, ty, q1⟩ => ?_)
  obtain ⟨h1, h2⟩ := tyV_is I1 r1 ty
  refine ⟨T, id, pa, slot, hty, h1, h2, ?_⟩
  have hA := ha cpos pins s1 σ H1 _ I1 q1
  rw [hs] at hA ⊢
  refine Calls.callWith_builtin (by show (false || (backTo cpos (starEach es X.env)).any (·.1)) = false; rw [hplain] <;> rfl) (Calls.evalArgs_plain ?_)
  exact thn hA fun us s2 ⟨vs, H2, I2, r2, q2⟩ => hm pins s2 σ H2 x vs v us Q I2 r1 r2 q2
/- xs.append(e), list.index on a module's tuple .. are MtR facts of 06m -/
end
end L2

namespace L2
open PySem PySem.Spec PyProof.Rows

def MtM (X : Cx) (id : String) (r : V → List V → Hp → VK → Prop) : Prop :=
  ∀ (pins : List (Addr × Obj)) (s : Shared) (σ : St) (H : Hp) (x : V) (xs : List V) (v : Value) (us : List Value) (Q : VK), Inv X pins σ H s → RelV x v → Vals xs us → r x xs H Q →
    wpAny (model X.prog X.w) X.A (call (.builtin id) (v :: us)) (EP X pins σ Q) X.xe s

/-! ### lists of values -/
theorem Vals.one : ∀ {x : V} {us : List Value}, Vals [x] us → ∃ u, us = [u] ∧ RelV x u
  | _, _, .cons r .nil => ⟨_, rfl, r⟩
theorem Vals.two : ∀ {x y : V} {us : List Value}, Vals [x, y] us → ∃ u v, us = [u, v] ∧ RelV x u ∧ RelV y v
  | _, _, _, .cons r (.cons q .nil) => ⟨_, _, rfl, r, q⟩
theorem Vals.rep {xs : List V} {us : List Value} (h : Vals xs us) : ∀ k : Nat, Vals (List.replicate k xs).flatten (List.replicate k us).flatten
  | 0 => .nil
  | k + 1 => by
    rw [List.replicate_succ, List.replicate_succ, List.flatten_cons, List.flatten_cons]
    exact Vals.append h (Vals.rep h k)
theorem foldl_rep (its : List Value) : ∀ (k : Nat) (acc : List Value),
    List.foldl (fun x1 x2 => x1 ++ x2) acc.toArray (List.replicate k its.toArray) = (acc ++ (List.replicate k its).flatten).toArray
  | 0, acc => by simp
  | k + 1, acc => by
    have e : acc.toArray ++ its.toArray = (acc ++ its).toArray := by simp
    have e2 : (acc ++ its) ++ (List.replicate k its).flatten = acc ++ (List.replicate (k + 1) its).flatten := by
      rw [List.replicate_succ, List.flatten_cons, List.append_assoc]
    rw [← e2, ← foldl_rep its k (acc ++ its), ← e, List.replicate_succ, List.foldl_cons]

section
variable {X : Cx} {pins : List (Addr × Obj)} {σ : St} {H : Hp} {s : Shared} {l b : Addr} {xs ys zs : List V}

/-! ### the two steps: a tracked list is rewritten, a new list is laid -/
theorem Inv.lset {its its' : List Value} {n : Nat} {f : Array Value → Array Value} {t' : Nat} (I : Inv X pins σ H s) (hH : H l = some (.lst xs))
    (e : s.heap.get? l = some { cls := .type "list", data := .seq its.toArray n }) (hf : f its.toArray = its'.toArray) (hv : Vals ys its') (hz : ys.length ≤ sizeLine) :
    Inv X pins σ (upd H l (.lst ys)) { s with heap := s.heap.update l (Obj.mapSeq f), toks := t' } := by
  have q := PySem.IsL.update e f
  rw [hf] at q
  refine I.write (x := l) (e := l) (by rw [hH]; exact trivial) (.inl rfl) (fun b' u hb hu => (Heap.get?_update_other s.heap (Obj.mapSeq f) (Ne.symm hb)).trans hu) ⟨_, q⟩ ?_
  exact ⟨hz, its', _, hv, q⟩
theorem Inv.lnew {its : List Value} {t' : Nat} (I : Inv X pins σ H s) (hv : Vals ys its) (hz : ys.length ≤ sizeLine) :
    Inv X pins σ (upd H s.heap.objs.size (.lst ys)) { s with heap := s.heap.push { cls := .type "list", data := .seq its.toArray }, toks := t' } :=
  I.laid (fun _ _ q => Heap.get?_push_of_some _ q) (Nat.le_refl _) ⟨hz, its, 0, hv, Heap.get?_push_size _ rfl⟩
theorem Inv.fresh (I : Inv X pins σ H s) : H s.heap.objs.size = none := I.hok.fresh (Nat.le_refl _)
theorem Inv.lstM (I : Inv X pins σ H s) (hH : H l = some (.lst xs)) : xs.length ≤ sizeLine ∧ ∃ (its : List Value) (n : Nat), Vals xs its ∧ xs.length = its.length ∧ s.heap.get? l = some { cls := .type "list", data := .seq its.toArray n } := by
  obtain ⟨z, its, n, r, e⟩ := I.hok l _ hH
  exact ⟨z, its, n, r, r.length, e⟩

theorem notLongL {n : Nat} (h : n ≤ sizeLine) : Builtin.List.listTooLong n = false := by
  unfold Builtin.List.listTooLong
  exact decide_eq_false (by omega)
end

section
variable {X : Cx}

/-! ### methods -/
def rAppend : V → List V → Hp → VK → Prop := fun x vs H Q => ∃ l xs y, x = .ref l ∧ vs = [y] ∧ H l = some (.lst xs) ∧ xs.length < sizeLine ∧ Q .non (upd H l (.lst (xs ++ [y])))
theorem mt_append : MtM X "list.append" rAppend := by
  intro pins s σ H x vs v us Q I rx rv h
  obtain ⟨l, xs, y, rfl, rfl, hH, hz, q⟩ := h
  cases rx
  obtain ⟨u, rfl, ru⟩ := rv.one
  obtain ⟨z, its, n, r, hl, e⟩ := I.lstM hH
  refine call_meets F.slot_list_append ⟨_, e, rfl⟩ F.entry_list_append (F.args_list_append_2 _ _) (PySem.list_append l its.toArray n u (by rw [List.size_toArray]; omega)) ⟨e, ?_⟩
  refine ⟨.non, _, I.lset (its' := its ++ [u]) hH e (by simp) (r.append (.cons ru .nil)) ?_, rfl, q⟩
  rw [List.length_append, List.length_singleton]
  omega

def rExtend : V → List V → Hp → VK → Prop := fun x vs H Q => ∃ l b xs zs, x = .ref l ∧ vs = [.ref b] ∧ H l = some (.lst xs) ∧ H b = some (.lst zs) ∧ xs.length + zs.length ≤ sizeLine ∧ Q .non (upd H l (.lst (xs ++ zs)))
theorem mt_extend : MtM X "list.extend" rExtend := by
  intro pins s σ H x vs v us Q I rx rv h
  obtain ⟨l, b, xs, zs, rfl, rfl, hH, hB, hz, q⟩ := h
  cases rx
  obtain ⟨u, rfl, ru⟩ := rv.one
  cases ru
  obtain ⟨z, its, n, r, hl, e⟩ := I.lstM hH
  obtain ⟨z2, its2, n2, r2, hl2, e2⟩ := I.lstM hB
  have hsz : its.toArray.size + its2.toArray.size ≤ sizeLine := by rw [List.size_toArray, List.size_toArray]; omega
  have hlong : ¬ (!its.toArray.isEmpty && Builtin.List.listTooLong (its.toArray.size + its2.toArray.size)) = true := by
    rw [notLongL hsz, Bool.and_false]
    exact Bool.false_ne_true
  refine call_meets F.slot_list_extend ⟨_, e, rfl⟩ F.entry_list_extend (F.args_list_extend_2 _ _)
    (AutoSeq1.list_extend_list_list_0 l its.toArray n b its2.toArray n2 hlong (by rw [List.size_toArray]; omega) (by omega)) ⟨e, e2, ?_⟩
  refine ⟨.non, _, I.lset (its' := its ++ its2) hH e (by simp) (r.append r2) ?_, rfl, q⟩
  rw [List.length_append]
  omega

/-! ### list + list, list += list, list * int -/
def rCat : R2 := fun x y H Q => ∃ l b xs zs, x = .ref l ∧ y = .ref b ∧ H l = some (.lst xs) ∧ H b = some (.lst zs) ∧ xs.length + zs.length ≤ sizeLine ∧ ∀ p, H p = none → Q (.ref p) (upd H p (.lst (xs ++ zs)))
theorem op_cat : OpR X (binaryOp .Add) rCat := by
  intro pins s σ H x y v u Q I rx ry h
  obtain ⟨l, b, xs, zs, rfl, rfl, hH, hB, hz, q⟩ := h
  cases rx
  cases ry
  obtain ⟨z, its, n, r, hl, e⟩ := I.lstM hH
  obtain ⟨z2, its2, n2, r2, hl2, e2⟩ := I.lstM hB
  refine PySem.P.add_list e e2 ?_ (by rw [List.size_toArray, List.size_toArray]; omega)
  have ea : its.toArray ++ its2.toArray = (its ++ its2).toArray := by simp
  rw [ea]
  exact ⟨.ref _, _, I.lnew (t' := s.toks) (r.append r2) (by rw [List.length_append]; omega), rfl, q _ I.fresh⟩
/-- a list times an int (a negative one is nothing) -/
def rRep : R2 := fun x y H Q => ∃ l k xs, x = .ref l ∧ y = .int k ∧ H l = some (.lst xs) ∧ -(2 ^ 63) ≤ k ∧ k < 2 ^ 63 ∧ xs.length * k.toNat ≤ sizeLine ∧
  ∀ p, H p = none → Q (.ref p) (upd H p (.lst (List.replicate k.toNat xs).flatten))
theorem len_rep {α : Type} (xs : List α) (k : Nat) : (List.replicate k xs).flatten.length = k * xs.length := by
  induction k with
  | zero => simp
  | succ k ih => rw [List.replicate_succ, List.flatten_cons, List.length_append, ih, Nat.succ_mul, Nat.add_comm]
theorem op_rep : OpR X (binaryOp .Mult) rRep := by
  intro pins s σ H x y v u Q I rx ry h
  obtain ⟨l, k, xs, rfl, rfl, hH, h1, h2, hz, q⟩ := h
  cases rx
  obtain ⟨t, rfl⟩ := ry
  obtain ⟨z, its, n, r, hl, e⟩ := I.lstM hH
  have hlen : its.toArray.size * k.toNat ≤ sizeLine := by rw [List.size_toArray, ← hl]; exact hz
  have hcap : ¬ its.toArray.size * k.toNat > (2 ^ 63 - 1) / 8 := by
    have : (sizeLine : Nat) ≤ (2 ^ 63 - 1) / 8 := by decide
    omega
  have hfit : ¬ (!Builtin.List.listFitsIndex k) = true := by
    rw [fitsIndex_both h1 h2]
    exact Bool.false_ne_true
  have hlong : ¬ Builtin.List.listTooLong (its.toArray.size * k.toNat) = true := by
    rw [notLongL hlen]
    exact Bool.false_ne_true
  have hnew : List.foldl (fun x1 x2 => x1 ++ x2) #[] (List.replicate (if its.toArray.isEmpty = true then 0 else k.toNat) its.toArray) = (List.replicate k.toNat its).flatten.toArray := by
    have f0 : ∀ m : Nat, List.foldl (fun x1 x2 => x1 ++ x2) #[] (List.replicate m its.toArray) = (List.replicate m its).flatten.toArray := fun m => by
      have := foldl_rep its m []
      rw [List.nil_append] at this
      exact this
    rw [f0]
    cases its with
    | nil => simp
    | cons a r' => rw [if_neg (by simp)]
  refine wpAny_binaryOp_repeat_ref (T := "list") (U := "int") (by decide) ⟨_, e, rfl⟩ (fun s' => typeIs_int s' k t) noFill_list_mul F.fills_int_mul F.slot_int_rmul repeat_list F.slot_int_index.lookup
    (call_meets F.slot_int_rmul (typeIs_int s k t) F.entry_int_rmul (F.args_int_rmul_2 _ _) (int___rmul___int_list k t l its.toArray n)
      ⟨e, rfl, ⟨_, e, rfl⟩, call_meets F.slot_list_mul ⟨_, e, rfl⟩ F.entry_list_mul (F.args_list_mul_2 _ _) (AutoListH.list___mul___list_int_3 l its.toArray n k t hfit hcap hlong) ⟨e, ?_⟩⟩)
  rw [hnew]
  exact ⟨.ref _, _, I.lnew (t' := s.toks) (r.rep k.toNat) (by rw [len_rep, Nat.mul_comm]; exact hz), rfl, q _ I.fresh⟩

/-! ### del xs[i] -/
end

/-! ### xs[a:b] = ys -/
section
variable {prog : Program} {w : World} {A : Around} {E : Value → Shared → Prop} {s : Shared}
set_option maxRecDepth 100000 in
end

section
variable {X : Cx}
end
end L2

namespace Att
open PySem PySem.W PySem.Calls PyProof.Rows

/-! ### the script -/
theorem ints_of_wellAll {P : Params} {h : Heap} : ∀ (ns : List Int) (vs : List Value), WellAll P h vs (ns.map WData.int) → IntsAre vs ns := by
  intro ns
  induction ns with
  | nil =>
    intro vs w
    rw [List.map_nil] at w
    cases w
    exact .nil
  | cons n ns ih =>
    intro vs w
    rw [List.map_cons] at w
    cases w with
    | cons a b =>
      cases a
      exact .cons _ _ (ih _ b)

theorem script_of {l : OpenLaw} {n : Nat} (hn : l.most = some n) {P : Params} {h : Heap} {args : List WData} {vals : List Value}
    (hpre : l.row.toRowW.claim.pre args = true) (hwl : WellAll P h vals args) :
    ∃ a vs ns, vals = [Value.ref a] ∧ args = [WData.list (ns.map WData.int)] ∧ h.get? a = some { cls := .type "list", data := .seq vs.toArray } ∧ IntsAre vs ns ∧ ns.length ≤ n := by
  have hsh : WShape.hasAll [] args [.list .int] = true := (pre_splitW hpre).1
  have hc : l.pre.holds [] { args := args } = true := (pre_splitW hpre).2
  obtain ⟨d, r, rfl, h1, h2⟩ := hasAllW_cons hsh
  obtain rfl := hasAllW_nil h2
  obtain ⟨xs, rfl, h3⟩ := hasW_list h1
  obtain ⟨ns, rfl⟩ := items_int h3
  have hlen : ns.length ≤ n := by
    unfold OpenLaw.pre at hc
    have h4 : (WTm.not (.lt (.lit (.int (n : Int))) (.len (.arg 0)))).holds [] { args := [.list (ns.map .int)] } = true := by
      have h4 := (holds_andW hc).1
      rw [hn] at h4
      exact h4
    have h5 := condW_of h4 (w_not (w_lt w_lit (w_len_list (w_arg rfl))))
    rw [List.length_map] at h5
    refine Nat.le_of_not_lt fun q => ?_
    have q' : (n : Int) < ((ns.length : Nat) : Int) := by omega
    first
      | (rw [decide_eq_true q'] at h5; exact absurd h5 (by decide))
      | (simp at h5; omega)
  cases hwl with
  | cons w1 w2 =>
    cases w2
    cases w1 with
    | list ho hall => exact ⟨_, _, ns, rfl, rfl, ho, ints_of_wellAll ns _ hall, hlen⟩

theorem post_true (l : OpenLaw) (args : List WData) : l.row.toRowW.claim.post args (.bool true) args = true :=
  postW_of (r := l.row.toRowW) (X := (true == true))
    (show WShape.has [] (.bool true) .bool = true by first | rfl | decide | simp [WShape.has, WShape.arms, WShape.armsAll])
    (show (WTm.eq .res (.lit (.bool true))).value [] { args := args, res := some (.bool true), after := args } = some (.bool (true == true)) from w_eq_bool (w_res rfl) w_lit) rfl

/-! ### the attachment: holds_open's last premise (the goal 'hc' behind k_head) from a wpAny of the law's body -/
/-! ### rules over ANY heap (no ledger) from facts about the written part K: the library's own take a ledger (News) for what they write -/
section
variable {prog : Program} {w : World} {A : Around} {E : Value → Shared → Prop} {s : Shared} {K : Frag}

/-! the whole heap as the ledger: makes every rule that writes through a ledger a rule over any heap -/
end
end Att

namespace L2
open PySem PySem.Spec PyProof.Rows

theorem vals_ints : ∀ {vs : List Value} {ns : List Int}, IntsAre vs ns → Vals (ns.map V.int) vs
  | _, _, .nil => .nil
  | _, _, .cons n t h => .cons ⟨t, rfl⟩ (vals_ints h)

/-- nothing is tracked but the script, known to the object (or it is an object of the module) -/
def Only (H : Hp) : Prop := ∀ b, H b = none ∨ ∃ o xs, H b = some (.frz o (.lst xs))

/-- THE HEAD: the law's promise, at the heap behind the top. F, the promise of the law's def, may use that base is part of the heap (so K.In base, base.Ns mainGlobals mg stand in Mod) -/
theorem law_call {P : Program} {w : World} {K : PySem.W.Frag} {mg mb : Str → Option Value} {CX : CXT} {k : Nat} {fa a : Addr} {fd : FuncData} {x : Str} {sp : Sp} {s₁ : Shared} {vs : List Value} {ns : List Int}
    (KX : K.In s₁.heap) (hns : s₁.heap.Ns mainGlobals mg) (hb : s₁.heap.Ns builtinsNs mb) (hbb : ∀ x : Str, x ≠ "__name__" → mb x = bootBuiltins x) (hlim : s₁.heap.NoLimit) (hg : s₁.gens = #[])
    (ha : s₁.heap.get? a = some { cls := .type "list", data := .seq vs.toArray }) (hi : IntsAre vs ns) (hl : ns.length ≤ sizeLine) (hr : Room k callerA)
    (F : ∀ base : Heap, K.In base → base.Ns mainGlobals mg → FnOk P w K mg base CX k fa fd [x] sp) (hbind : ∀ (s : Shared) (u : Value), BindsTo s fd ⟨[u], []⟩ [(x, u)])
    (hsp : ∀ H : Hp, Only H → SqL K H a (ns.map V.int) → sp [.ref a] H (fun v _ => v = .bl true) fun _ _ _ => False)
    (hCX : ∀ H e s', CX [] H s₁ (fun _ _ _ => False) e s' → False) :
    codeAny (model P w) callerA (.call (.ref fa) ⟨[.ref a], []⟩) (fun r s' => r = .ok (.ret (.bool true)) ∧ OldK s₁.heap s'.heap ∧ s'.os = s₁.os ∧ AllBare s'.gens) s₁ := by
  have rv := vals_ints hi
  have lenV := hi.length
  -- from an abstract heap in which nothing but the script may be tracked
  have core : ∀ H : Hp, Only H → SqL K H a (ns.map V.int) → HOk P w H s₁.heap → (∀ b, H b ≠ none → b = a) → (H a ≠ none → K.lookup a = none) →
      codeAny (model P w) callerA (.call (.ref fa) ⟨[.ref a], []⟩) (fun r s' => r = .ok (.ret (.bool true)) ∧ OldK s₁.heap s'.heap ∧ s'.os = s₁.os ∧ AllBare s'.gens) s₁ := by
    intro H hO hS hok hA hK
    have base_of : ∀ {b : Addr} {o : Obj}, s₁.heap.get? b = some o → H b = none → (hidT s₁.heap H).get? b = some o := fun e n => hidT_get e n
    have noA : ∀ {b : Addr} {o : Obj} {es : Array DictEntry} {ep : Nat}, s₁.heap.get? b = some o → o.data = .dict es ep → H b = none := fun {b o es ep} e d => by
      cases q : H b with
      | none => rfl
      | some u =>
        have e' : b = a := hA b (by rw [q]; simp)
        subst e'
        rw [ha] at e; cases e
        have d' : Data.seq vs.toArray _ = Data.dict es ep := d
        cases d'
    have nsK : ∀ {b : Addr} {m : Str → Option Value}, s₁.heap.Ns b m → (hidT s₁.heap H).Ns b m := fun {b m} ⟨o, es, ep, e, d, r⟩ => ⟨o, es, ep, base_of e (noA e d), d, r⟩
    have hKb : K.In (hidT s₁.heap H) := fun b o e => base_of (KX b o e) (by
      cases q : H b with
      | none => rfl
      | some u =>
        have e' : b = a := hA b (by rw [q]; simp)
        subst e'
        rw [hK (by rw [q]; simp)] at e; cases e)
    have hM : Mod K mg (hidT s₁.heap H) := ⟨hKb, nsK hns, ⟨mb, nsK hb, hbb⟩, let ⟨mc, h1, h2⟩ := hlim; ⟨mc, nsK h1, h2⟩⟩
    have e0 : Env0 P w K mg (hidT s₁.heap H) callerA [] s₁ H := ⟨rfl, hM, fun b o e => of_hidT e, Nat.le_of_eq (hidT_size _ _), trivial, fun b hb => absurd (show b ∈ ([] : List Addr) from hb) (by simp), hok, .of_eq hg⟩
    refine codeAny_mono ((F _ hKb (nsK hns)).run callerA [] s₁ H ⟨[.ref a], []⟩ [.ref a] [.ref a] _ _ hr e0 (hbind s₁ (.ref a)) (.cons rfl .nil) (hsp H hO hS)) fun r s' h => ?_
    cases r with
    | error e => exact (hCX H e s' h).elim
    | ok fl =>
      cases fl with
      | next => exact False.elim h
      | brk => exact False.elim h
      | cont => exact False.elim h
      | ret u =>
        obtain ⟨v, H', os, bare, un, hok', r', q⟩ := h
        have q' : v = .bl true := q
        subst q'
        obtain rfl : u = Value.bool true := r'
        refine ⟨rfl, OldK.of_keep fun b o e => ?_, os, bare⟩
        cases q : H b with
        | none => exact un.keep b o e q (by intro z; exact absurd (show b ∈ ([] : List Addr) from z) (by simp)) (by simp)
        | some u =>
          rcases hO b with z | ⟨ob, xs, z⟩
          · rw [q] at z; cases z
          · have z2 := un.frzs b ob _ z
            obtain ⟨e1, _⟩ := hok b _ z
            obtain ⟨e2, _⟩ := hok' b _ z2
            rw [e] at e1; cases e1
            exact e2
  cases hk : K.lookup a with
  | some o =>
    -- the script is one of the module's own objects
    have e := KX a o hk
    rw [ha] at e
    cases e
    refine core (fun _ => none) (fun _ => .inl rfl) (.inr ⟨_, vs.toArray, _, hk, rfl, rfl, rfl, by rw [List.size_toArray, lenV]; exact hl, by simpa using rv⟩) (fun b u z => by have z' : (none : Option HO) = some u := z; cases z') (fun b z => absurd rfl z) fun z => absurd rfl z
  | none =>
    refine core (fun b => if b = a then some (.frz { cls := .type "list", data := .seq vs.toArray } (.lst (ns.map V.int))) else none) (fun b => ?_) (.inl (.inr ⟨{ cls := .type "list", data := .seq vs.toArray }, if_pos rfl⟩)) (fun b u z => ?_) (fun b z => ?_) fun _ => hk
    · by_cases hb : b = a
      · exact .inr ⟨_, _, if_pos hb⟩
      · exact .inl (if_neg hb)
    · by_cases hb : b = a
      · have z' := (if_pos hb).symm.trans z
        cases z'
        subst hb
        exact ⟨ha, by rw [List.length_map]; exact hl, vs, _, rv, ha⟩
      · have z' := (if_neg hb).symm.trans z
        cases z'
    · by_cases hb : b = a
      · exact hb
      · exact absurd (if_neg hb) z
end L2

namespace L2
open PySem PySem.Spec PyProof.Rows

end L2

/- THE LAST THEOREM (shape; LID, My.* are yours):
   My.Adr: a structure of the addresses that your layer names (classes, functions); My.Txt K t: a structure (Prop) of the equations over K;
   My.txt_mk : {K} {implicit addresses ..} (e1 : nsIn K mainGlobals "law" = some (some (.ref f))) (e2 : K.lookup f = some ⟨oc, od, .func (fnOf "law" "law" params body scope dV kV doc pm an cdv ct), sl⟩) (e3 : codeIn K cdv "law" = true) .. : ∃ t, My.Txt K t

set_option maxRecDepth 100000 in
set_option maxHeartbeats 0 in
theorem PySem.Challenge.cw_LID_holds : PySem.Challenge.rw_LID.Holds := by
  w_on; o_law; k_head; (case hw => w_witness2)
  k_fill
  refine L2.walk_of (l := PySem.Challenge.rw_LID) (n := 63) (k := 40) (x := "script") (CX := fun w => ..) (sp := fun _ => My.sp_law) rfl (by decide) rfl ⟨rfl, by decide, by decide⟩ (fun w h Y => PySem.W.kIn_of Y) ?F ?S ?C
  case F =>
    intro w mg fa h KX G hmg
    have T : ∃ t, My.Txt (L2.KOf KX) t := by
      dsimp only [L2.KOf]                          -- K must stand as «<heap const> w.params» for k_is
      refine' My.txt_mk ?e1 ?e2 ?e3 ..
      (case e1 => PySem.W.k_is)                    -- in the order: a name -> its address -> its object -> its parts
      (case e2 => PySem.W.k_is)
      ..
    obtain ⟨t, T⟩ := T
    have e0 := hmg.symm.trans (PySem.W.mg_of KX G T.law)
    cases e0                                       -- fa is the law's own address
    exact ⟨_, fun s u => .of_eq rfl, fun base kb nb => My.law_fn T kb nb⟩     -- if «.of_eq rfl» comes too early: refine' ⟨_, ?b, fun base kb nb => My.law_fn T kb nb⟩; exact fun s u => .of_eq rfl
  case S => exact fun w H a ns hl hO hS => ..
  case C => exact ..
(the tactic k_is has no namespace: write k_is) -/

/-! SHORT WORDS over the layer: a def of the text, its body, what a loop and a test want. -/
namespace L2
open PySem PySem.Spec PyProof.Rows

/-! ### the text by places -/
def defArgs (s : Stmt) : Arguments := match s with
  | .FunctionDef _ a _ _ _ _ _ _ _ _ => a
  | _ => { posonlyargs := [], args := [], vararg := none, kwonlyargs := [], kw_defaults := [], kwarg := none, defaults := [] }
def defBody (s : Stmt) : List Stmt := match s with
  | .FunctionDef _ _ b _ _ _ _ _ _ _ => b
  | _ => []
def defScope (s : Stmt) : Scope := match s with
  | .FunctionDef _ _ _ _ _ _ sc _ _ _ => sc
  | _ => { kind := .function, names := [], isGenerator := false, isCoroutine := false }

/-! ### no exception leaves a def -/
abbrev CX0 : CXT := fun _ _ _ _ _ _ => False
abbrev E0 : XK := fun _ _ _ => False
theorem pass0 {X : Cx} : Passes CX0 X E0 := fun _ _ _ _ _ _ _ h => h.elim

/-! ### a def (or method) of the text as it stands behind the top -/
structure Fun (K : PySem.W.Frag) (x qual : Str) (st : Stmt) (f : Addr) (fd : FuncData) : Prop where
  ex : ∃ (oc : Value) (od : Option Addr) (kV doc pm : Value) (an : Option Addr) (cdv ct : Value) (osl : Array (Option Value)),
    fd = PySem.W.fnOf x qual (defArgs st) (defBody st) (defScope st) .none kV doc pm an cdv ct ∧ K.lookup f = some ⟨oc, od, .func fd, osl⟩ ∧ PySem.W.codeIn K cdv qual = true
  kp : PySem.W.keepIn K (.ref f) = true
section
variable {P : Program} {w : World} {K : PySem.W.Frag} {mg : Str → Option Value} {base : Heap}
/-- THE RULE for a def: its body as a term of rules, and the reading of that term -/
theorem Fun.ok {x qual : Str} {st : Stmt} {f : Addr} {fd : FuncData} {N ps : List Str} {k : Nat} {sp : Sp} (F : Fun K x qual st f fd) (S : FnScope N ps (defScope st)) (len : ∀ vs H Q E, sp vs H Q E → vs.length = ps.length)
    (hbody : ∀ (cdv : Value) (A : Around) (outer : List Env) (s : Shared) (H : Hp) (vs : List V) (Q : VK) (E : XK), Room k (A.deeper (envOfC qual (defScope st) s.heap.objs.size f cdv)) → sp vs H Q E →
      ∃ t, PSs (cxOf CX0 P w K mg base N qual (defScope st) f cdv A outer s H E).nox (defBody st) t ∧ t { nx := fun _ H' => Q .non H', rt := Q } (start N vs) H) : FnOk P w K mg base CX0 (k + 1) f fd ps sp := by
  obtain ⟨oc, od, kV, doc, pm, an, cdv, ct, osl, rfl, lk, hcd⟩ := F.ex
  refine fn_of lk hcd S len fun A outer s H vs Q E hr hsp => ?_
  obtain ⟨t, h, q⟩ := hbody cdv A outer s H vs Q E hr hsp
  exact ⟨t, h.nox, q⟩
/-- how its arguments bind (no defaults): h is «fun _ _ _ _ _ _ us hl => match us, hl with | [_, _], _ => rfl», one _ a parameter -/
theorem Fun.binds {x qual : Str} {st : Stmt} {f : Addr} {fd : FuncData} {ps : List Str} (F : Fun K x qual st f fd)
    (h : ∀ (kV doc pm : Value) (an : Option Addr) (cdv ct : Value) (us : List Value), us.length = ps.length → bindArgs (PySem.W.fnOf x qual (defArgs st) (defBody st) (defScope st) .none kV doc pm an cdv ct) ⟨us, []⟩ = pure (ps.zip us)) : Binds K fd ps [] := by
  obtain ⟨oc, od, kV, doc, pm, an, cdv, ct, osl, rfl, lk, hcd⟩ := F.ex
  exact .all (h kV doc pm an cdv ct)
theorem fun_mk {x qual : Str} {st : Stmt} {f : Addr} {oc : Value} {od an : Option Addr} {osl : Array (Option Value)} {kV doc pm cdv ct : Value} (l : K.lookup f = some ⟨oc, od, .func (PySem.W.fnOf x qual (defArgs st) (defBody st) (defScope st) .none kV doc pm an cdv ct), osl⟩)
    (c : PySem.W.codeIn K cdv qual = true) (k : PySem.W.keepIn K (.ref f) = true) : Fun K x qual st f (PySem.W.fnOf x qual (defArgs st) (defBody st) (defScope st) .none kV doc pm an cdv ct) := ⟨⟨oc, od, kV, doc, pm, an, cdv, ct, osl, rfl, l, c⟩, k⟩
end
/-! ### expressions in short: the name that stands in the i-th slot -/
section
variable {X : Cx}
theorem pv (i : Nat) {x : Str} {pos : Pos} (hN : X.N[i]? = some x := by rfl) (hv : Vis X.env.scope x := by first | exact Or.inl rfl | exact Or.inr (Or.inl rfl) | exact Or.inr (Or.inr rfl)) (hd : (x == ("__debug__" : Str)) = false := by decide)
    (hcd : (x == ("__classdict__" : Str)) = false := by decide) : PE X (.Name x pos) (tVar i) := pe_var hN hv hd hcd
end

/-! ### tests -/
theorem iteF {A B : Prop} (h : B) : if false = true then A else B := by
  rw [if_neg Bool.false_ne_true]
  exact h
theorem iteT {A B : Prop} (h : A) : if true = true then A else B := by
  rw [if_pos rfl]
  exact h
theorem ite2 {c A B : Prop} [Decidable c] (h1 : c → A) (h2 : ¬ c → B) : if c then A else B := by
  by_cases h : c
  · rw [if_pos h]
    exact h1 h
  · rw [if_neg h]
    exact h2 h
theorem iteNS {c A B : Prop} [Decidable c] (hc : c) (h : B) : if (!decide c) = true then A else B := by
  rw [decide_eq_true hc]
  exact iteF h

/-! ### heaps -/
/-- all that was tracked is as it was -/
def Same (H H' : Hp) : Prop := ∀ b o, H b = some o → H' b = some o
theorem Same.refl (H : Hp) : Same H H := fun _ _ h => h
theorem Same.trans {H H1 H2 : Hp} (a : Same H H1) (b : Same H1 H2) : Same H H2 := fun c o h => b c o (a c o h)
theorem Same.free {H H' : Hp} (e : Same H H') {l : Addr} (h : H' l = Option.none) : H l = Option.none := by
  cases q : H l with
  | none => rfl
  | some o =>
    rw [e l o q] at h
    cases h
theorem Same.seq {K : PySem.W.Frag} {H H' : Hp} {a : Addr} {xs : List V} (e : Same H H') (h : SqL K H a xs) : SqL K H' a xs := by
  rcases h with (h | ⟨o, h⟩) | h
  · exact .inl (.inl (e _ _ h))
  · exact .inl (.inr ⟨o, e _ _ h⟩)
  · exact .inr h

end L2

set_option Elab.async false
set_option linter.all false
set_option maxRecDepth 100000
set_option maxHeartbeats 4000000
/-! WHAT A DEF LEAVES BEHIND: only what it hands back. -/
namespace L3
open PySem PySem.Spec PyProof.Rows L2

theorem same_upd {H : Hp} {p : Addr} {o : HO} (h : H p = none) : Same H (upd H p o) := fun b u e => by
  rw [upd_ne (ne_of_none e h)]; exact e
theorem same_to {H H' : Hp} {p : Addr} {o : HO} (s : Same H H') (h : H p = none) : Same H (upd H' p o) := fun b u e => by
  rw [upd_ne (ne_of_none e h)]; exact s b u e

def newO : HO → Prop
  | .lst _ => True
  | .tup _ => True
  | _ => False
def Rst (H H' : Hp) (P : Hp → Prop) : Prop := ∃ Hr, Same H Hr ∧ Same Hr H' ∧ (∀ a o, Hr a = some o → H a = some o ∨ newO o) ∧ P Hr
theorem Rst.same {H H' : Hp} {P : Hp → Prop} (s : Same H H') (p : P H) : Rst H H' P := ⟨H, Same.refl H, s, fun _ _ e => .inl e, p⟩
theorem Rst.one {H H' : Hp} {P : Hp → Prop} {p : Addr} {o : HO} (s : Same H H') (n : H p = none) (e : H' p = some o) (no : newO o) (q : P (upd H p o)) : Rst H H' P :=
  ⟨upd H p o, same_upd n, fun b u z => by
    by_cases hb : b = p
    · subst hb; rw [upd_same] at z; cases z; exact e
    · rw [upd_ne hb] at z; exact s b u z, fun b u z => by
    by_cases hb : b = p
    · subst hb; rw [upd_same] at z; cases z; exact .inr no
    · rw [upd_ne hb] at z; exact .inl z, q⟩
section
variable {P : Program} {w : World} {H Hr H' : Hp} {h h' : Heap}
theorem objOk_rst {a : Addr} {o : HO} (s1 : Same H Hr) (x0 : ObjOk P w H h a o) (x : ObjOk P w H' h' a o) : ObjOk P w Hr h' a o := by
  induction o with
  | ins C dx fs => exact ⟨s1 _ _ x0.1, x.2⟩
  | frz ob u ih => exact ⟨x.1, ih x0.2 x.2⟩
  | lst xs => exact x
  | tup xs => exact x
  | dK kvs => exact x
  | dT kvs => exact x
  | set S n => exact x
  | own y => exact x
  | xd fs => exact x
  | rng lo hi => exact x
  | tbl ps => exact x
  | met f y => exact x
  | ext φ => exact x
theorem hok_rst (e0 : HOk P w H h) (k : HOk P w H' h') (s1 : Same H Hr) (s2 : Same Hr H') (hn : ∀ a o, Hr a = some o → H a = some o ∨ newO o) : HOk P w Hr h' := fun a o e => by
  have x := k a o (s2 a o e)
  rcases hn a o e with z | z
  · exact objOk_rst s1 (e0 a o z) x
  · cases o with
    | lst xs => exact x
    | tup xs => exact x
    | _ => exact False.elim z
theorem un_rst {fs ex : List Addr} (u : Un fs ex H H' h h') (s1 : Same H Hr) (s2 : Same Hr H') : Un fs ex H Hr h h' where
  keep := u.keep
  slot := u.slot
  free := fun b o e n hx => s2.free (u.free b o e n hx)
  there := u.there
  tups := fun b xs e => s1 b _ e
  frzs := fun b o x e => s1 b _ e
  tbls := fun b ps e => ⟨#[], by rw [s1 b _ e]; simp⟩
end

section
variable {P : Program} {w : World} {K : PySem.W.Frag} {mg : Str → Option Value} {base : Heap} {CX : CXT} {k : Nat} {f : Addr} {fd : FuncData} {ps : List Str} {sp : Sp}
def SpR (sp : Sp) : Sp := fun vs H Q2 E => ∃ Q : VK, (∀ v H', Rst H H' (Q v) → Q2 v H') ∧ sp vs H Q E
theorem FnOk.rst (F : FnOk P w K mg base CX k f fd ps (SpR sp)) : FnOk P w K mg base CX k f fd ps sp :=
  ⟨fun vs H Q E h => F.len vs H (fun v H' => Rst H H' (Q v)) E ⟨Q, fun _ _ z => z, h⟩, fun A outer s H args us vs Q E hr he hb hv hs =>
    codeAny_mono (F.run A outer s H args us vs (fun v H' => Rst H H' (Q v)) E hr he hb hv ⟨Q, fun _ _ z => z, hs⟩) fun r s' hq => by
      cases r with
      | error e => exact hq
      | ok fl =>
        cases fl with
        | ret u =>
          obtain ⟨v, H', e1, e2, e3, e4, e5, Hr, s1, s2, hn, q⟩ := hq
          exact ⟨v, Hr, e1, e2, un_rst e3 s1 s2, hok_rst he.hok e4 s1 s2 hn, e5, q⟩
        | next => exact False.elim hq
        | brk => exact False.elim hq
        | cont => exact False.elim hq⟩
/-- a def that raises nothing and leaves nothing behind: its body as a term of rules, and the reading of that term -/
theorem Fun.okR {x qual : Str} {st : Stmt} {f : Addr} {fd : FuncData} {N ps : List Str} {k : Nat} {sp : Sp} (F : Fun K x qual st f fd) (S : FnScope N ps (defScope st)) (len : ∀ vs H Q E, sp vs H Q E → vs.length = ps.length)
    (hbody : ∀ (cdv : Value) (A : Around) (outer : List Env) (s : Shared) (H : Hp) (vs : List V) (Q Q2 : VK) (E : XK), Room k (A.deeper (envOfC qual (defScope st) s.heap.objs.size f cdv)) → sp vs H Q E → (∀ v H', Rst H H' (Q v) → Q2 v H') →
      ∃ t, PSs (cxOf CX0 P w K mg base N qual (defScope st) f cdv A outer s H E).nox (defBody st) t ∧ t { nx := fun _ H' => Q2 .non H', rt := Q2 } (start N vs) H) : FnOk P w K mg base CX0 (k + 1) f fd ps sp :=
  FnOk.rst (F.ok S (fun vs H Q2 E ⟨Q, _, h⟩ => len vs H Q E h) fun cdv A outer s H vs Q2 E hr ⟨Q, hq, h⟩ => hbody cdv A outer s H vs Q Q2 E hr h hq)
end
end L3

set_option Elab.async false
set_option linter.all false
set_option maxRecDepth 100000
set_option maxHeartbeats 4000000
/-! A COMPREHENSION over the layer: its block is a context of its own. -/
namespace L3
open PySem PySem.Spec PyProof.Rows L2

abbrev NE : Value → Shared → Prop := fun _ _ => False

/-- the tests of a clause -/
def PTs (X : Cx) (cs : List Expr) (t : TT) : Prop :=
  ∀ (pins : List (Addr × Obj)) (s : Shared) (σ : L2.St) (H : Hp) (Q : Bool → Hp → Prop), Inv X pins σ H s → t σ H Q →
    wpAny (model X.prog X.w) X.A (forIn cs true fun c r => if r = true then do let ok ← isTrue c X.env (eval c X.env); pure (ForInStep.yield ok) else pure (ForInStep.yield r)) (TP X pins σ Q) X.xe s
def tYes : TT := fun _ H Q => Q true H
theorem pts_nil {X : Cx} : PTs X [] tYes := fun _ _ _ H _ I h => wpAny_tests_nil ⟨H, I, h⟩
theorem pts_one {X : Cx} {c : Expr} {t : TT} (h : PT X c t) : PTs X [c] t := fun pins s σ H Q I q => wpAny_tests_one (h pins s σ H Q I q)

section
variable {prog : Program} {w : World} {A : Around} {R : Result → Shared → Prop} {s : Shared}
/-- the loop of a comprehension that raises nothing, any target -/
theorem compLoop_any {elt target iter : Expr} {ifs : List Expr} {scope : Scope} {pos : Pos} {it acc : Value} {env : Env} (I : Nat → Shared → Prop)
    (turn : ∀ n s, I n s → wpAny (model prog w) A (pyNext it) (fun r s₁ => match r with
      | none => R (.ok .next) s₁
      | some v => wpAny (model prog w) A (letOwnedTupleGo target it v) (fun _ s₀ => wpAny (model prog w) A (assign target env v) (fun _ s₂ =>
          wpAny (model prog w) A (forIn ifs true fun c r => if r = true then do let ok ← isTrue c env (eval c env); pure (ForInStep.yield ok) else pure (ForInStep.yield r)) (fun ok s₃ =>
            if ok = true then wpAny (model prog w) A (eval elt env) (fun x s₄ =>
              wpAny (model prog w) A (call (.builtin "list.append") [acc, x]) (fun _ s₅ => ∃ m, m < n ∧ I m s₅) NE s₄) NE s₃
            else ∃ m, m < n ∧ I m s₃) NE s₂) NE s₀) NE s₁) NE s)
    (n : Nat) (h : I n s) :
    codeAny (model prog w) A (.compLoop (.ListComp elt [⟨target, iter, ifs, 0⟩] scope pos) 0 it acc env) R s := by
  refine codeAny_loop rfl I (fun n s hI => ?_) n h
  show wpAny _ A ((compTurn (.ListComp elt [⟨target, iter, ifs, 0⟩] scope pos) 0 it acc env).onRaise (fun x => do noteFrame x env; theTreesLotGoes x)) _ _ s
  refine wpAny_noted (wpAny_mono (E := NE) ?_ (fun _ _ q => q) fun _ _ f => f.elim)
  rw [compTurn_list]
  refine wpAny_bind (wpAny_standAt (wpAny_bind (wpAny_mono (turn n s hI) (fun r s₁ h₁ => ?_) fun _ _ h' => h')))
  cases r with
  | none => exact wpAny_pure h₁
  | some v =>
    refine wpAny_bind (wpAny_mono h₁ (fun _ s₀ h₀ => ?_) fun _ _ h' => h')
    refine wpAny_bind (wpAny_mono h₀ (fun _ s₂ h₂ => wpAny_bind (wpAny_mono h₂ (fun ok s₃ h₃ => ?_) fun _ _ h' => h')) fun _ _ h' => h')
    cases ok with
    | false => exact wpAny_pure ⟨rfl, h₃⟩
    | true =>
      exact wpAny_bind (wpAny_bind (wpAny_mono h₃ (fun x s₄ h₄ => wpAny_bind (wpAny_mono h₄ (fun _ s₅ h₅ => wpAny_pure (wpAny_pure ⟨rfl, h₅⟩)) fun _ _ h' => h')) fun _ _ h' => h'))
end

/-! ### the closure of a block -/
theorem closure_go {env : Env} : ∀ (names : List (Str × NameKind)) (cs : List (Str × Addr)), (∀ y ∈ names, y.2 = .free → ∃ c, env.cells.lookup y.1 = some c) → (∀ x c, cs.lookup x = some c → env.cells.lookup x = some c) →
    ∃ cl, (forIn names cs (fun (y : Str × NameKind) r => if (y.2 == .free) = true then do let a ← cellOf env y.1; pure (ForInStep.yield ((y.1, a) :: r)) else pure (ForInStep.yield r)) : Sem (List (Str × Addr))) = pure cl ∧
      (∀ x c, cl.lookup x = some c → env.cells.lookup x = some c) ∧ (∀ x, (∃ c, cs.lookup x = some c) → ∃ c, cl.lookup x = some c) ∧ (∀ y ∈ names, y.2 = .free → ∃ c, cl.lookup y.1 = some c)
  | [], cs, _, h => ⟨cs, rfl, h, fun _ z => z, fun _ z => nomatch z⟩
  | y :: r, cs, hn, h => by
    by_cases hy : y.2 = .free
    · obtain ⟨c, hc⟩ := hn y List.mem_cons_self hy
      have hc' : cellOf env y.1 = pure c := by unfold cellOf; rw [hc]
      have h2 : ∀ x d, ((y.1, c) :: cs).lookup x = some d → env.cells.lookup x = some d := fun x d e => by
        rw [List.lookup_cons] at e
        by_cases hx : x = y.1
        · subst hx
          rw [show (y.1 == y.1) = true from beq_self_eq_true _] at e
          cases e
          exact hc
        · rw [show (x == y.1) = false from beq_eq_false_iff_ne.mpr hx] at e
          exact h x d e
      obtain ⟨cl, e1, e2, e3, e4⟩ := closure_go r ((y.1, c) :: cs) (fun z hz => hn z (List.mem_cons_of_mem _ hz)) h2
      refine ⟨cl, ?_, e2, fun x hx => e3 x ?_, fun z hz hf => ?_⟩
      · rw [List.forIn_cons, hy, if_pos (by decide), hc']
        exact e1
      · obtain ⟨d, hd⟩ := hx
        rw [List.lookup_cons]
        by_cases hx : x = y.1
        · exact ⟨c, by rw [show (x == y.1) = true from beq_iff_eq.mpr hx]⟩
        · exact ⟨d, by rw [show (x == y.1) = false from beq_eq_false_iff_ne.mpr hx]; exact hd⟩
      · rcases List.mem_cons.mp hz with rfl | hz
        · exact e3 z.1 ⟨c, by rw [List.lookup_cons, show (z.1 == z.1) = true from beq_self_eq_true _]⟩
        · exact e4 z hz hf
    · obtain ⟨cl, e1, e2, e3, e4⟩ := closure_go r cs (fun z hz => hn z (List.mem_cons_of_mem _ hz)) h
      refine ⟨cl, ?_, e2, e3, fun z hz hf => ?_⟩
      · rw [List.forIn_cons, if_neg (by intro q; exact hy (beq_iff_eq.mp q))]
        exact e1
      · rcases List.mem_cons.mp hz with rfl | hz
        · exact absurd hf hy
        · exact e4 z hz hf
theorem closure_ok {scope : Scope} {env : Env} (hn : ∀ y ∈ scope.names, y.2 = .free → ∃ c, env.cells.lookup y.1 = some c) :
    ∃ cl, closureFor scope env = pure cl ∧ (∀ x c, cl.lookup x = some c → env.cells.lookup x = some c) ∧ (∀ y ∈ scope.names, y.2 = .free → ∃ c, cl.lookup y.1 = some c) := by
  obtain ⟨cl, e1, e2, _, e4⟩ := closure_go (env := env) scope.names [] hn (fun x c e => by rw [List.lookup_nil] at e; cases e)
  refine ⟨cl, ?_, e2, e4⟩
  unfold closureFor
  exact (congrArg (· >>= pure) e1)

theorem relabel_back {env : Env} {x : Str} : ∀ {names : List (Str × NameKind)}, (∀ y ∈ names, y.2 ≠ .cell) →
    ((names.map fun (n, k) => if (k == NameKind.free && env.scope.kind == .function && env.kindOf n == some .cell) then (n, NameKind.cell) else (n, k)).lookup x = some .cell ∨
      (names.map fun (n, k) => if (k == NameKind.free && env.scope.kind == .function && env.kindOf n == some .cell) then (n, NameKind.cell) else (n, k)).lookup x = some .free) → names.lookup x = some .free
  | [], _, h => by rcases h with h | h <;> (rw [List.map_nil, List.lookup_nil] at h; cases h)
  | (n, k) :: r, hc, h => by
    have ih := relabel_back (env := env) (x := x) (names := r) fun y hy => hc y (List.mem_cons_of_mem _ hy)
    have hk : k ≠ .cell := hc (n, k) List.mem_cons_self
    rw [List.map_cons] at h
    rw [List.lookup_cons]
    cases hx : x == n with
    | true =>
      dsimp only
      by_cases hq : (k == NameKind.free && env.scope.kind == .function && env.kindOf n == some .cell) = true
      · rw [Bool.and_eq_true, Bool.and_eq_true] at hq
        rw [beq_iff_eq.mp hq.1.1]
      · dsimp only at h
        rw [if_neg hq] at h
        rw [List.lookup_cons, hx] at h
        dsimp only at h
        rcases h with h | h
        · exact absurd (Option.some.inj h) hk
        · exact h
    | false =>
      dsimp only
      refine ih ?_
      dsimp only at h
      by_cases hq : (k == NameKind.free && env.scope.kind == .function && env.kindOf n == some .cell) = true
      · rw [if_pos hq, List.lookup_cons, hx] at h
        exact h
      · rw [if_neg hq, List.lookup_cons, hx] at h
        exact h
theorem mem_lookup {x : Str} {k : NameKind} {l : List (Str × NameKind)} (h : l.lookup x = some k) : (x, k) ∈ l := PySem.mem_of_lookup h

/-! ### the block's context -/
def comp (X : Cx) (Nc : List Str) (scope : Scope) (cl : List (Str × Addr)) (C : Addr) (s : Shared) (H : Hp) (fp : List Addr) : Cx :=
  { X with N := Nc, s₀ := s, H₀ := H, env := compEnvC scope cl C X.env, outer := X.stack, stack := X.stack, ex := fp, fn := fun _ => false, pn := [], xe := fun _ _ => False }

/-- where the block's names come from: none (its own), or a slot of the def -/
def MapOk (X : Cx) (scope : Scope) : List Str → List (Option Nat) → Prop
  | [], [] => True
  | _ :: N, none :: m => MapOk X scope N m
  | x :: N, some i :: m => (X.N[i]? = some x ∧ (X.env.scope.names.lookup x = some .cell ∨ X.env.scope.names.lookup x = some .free) ∧ scope.names.lookup x = some .free) ∧ MapOk X scope N m
  | _, _ => False
theorem MapOk.len {X : Cx} {scope : Scope} : ∀ {N : List Str} {m : List (Option Nat)}, MapOk X scope N m → m.length = N.length
  | [], [], _ => rfl
  | _ :: N, none :: m, h => congrArg (· + 1) (MapOk.len (N := N) (m := m) h)
  | _ :: N, some _ :: m, h => congrArg (· + 1) (MapOk.len (N := N) (m := m) h.2)
  | [], _ :: _, h => h.elim
  | _ :: _, [], h => h.elim
theorem MapOk.at {X : Cx} {scope : Scope} {x : Str} {i : Nat} : ∀ {N : List Str} {m : List (Option Nat)} {j : Nat}, MapOk X scope N m → m[j]? = some (some i) → N[j]? = some x →
    X.N[i]? = some x ∧ (X.env.scope.names.lookup x = some .cell ∨ X.env.scope.names.lookup x = some .free) ∧ scope.names.lookup x = some .free
  | [], [], j, _, h, _ => by simp at h
  | _ :: N, none :: m, 0, _, h, _ => by simp at h
  | _ :: N, none :: m, j + 1, k, h, e => MapOk.at (N := N) (m := m) (j := j) k (by simpa using h) (by simpa using e)
  | y :: N, some i' :: m, 0, k, h, e => by
    simp at h e
    subst h; subst e
    exact k.1
  | _ :: N, some _ :: m, j + 1, k, h, e => MapOk.at (N := N) (m := m) (j := j) k.2 (by simpa using h) (by simpa using e)
  | [], _ :: _, _, h, _, _ => h.elim
  | _ :: _, [], _, h, _, _ => h.elim
/-- the block's names at its entry -/
def mapS (m : List (Option Nat)) (σ : L2.St) : L2.St := m.map fun o => o.bind fun i => (σ[i]?).bind id

structure CompOk (X : Cx) (scope : Scope) (Nc : List Str) (mp : List (Option Nat)) : Prop where
  kind : scope.kind = .function
  noc : ∀ y ∈ scope.names, y.2 ≠ .cell
  loc : ∀ y ∈ scope.names, y.2 = .local → scope.names.lookup y.1 = some .local
  fre : ∀ y ∈ scope.names, y.2 = .free → X.env.kindOf y.1 = some .cell ∨ X.env.kindOf y.1 = some .free
  map : MapOk X scope Nc mp

section
variable {X : Cx} {pins : List (Addr × Obj)} {σ : L2.St} {H : Hp} {s : Shared} {scope : Scope} {Nc : List Str} {mp : List (Option Nat)} {cl : List (Str × Addr)} {C : Addr} {fp : List Addr}
theorem comp_ok (I : Inv X pins σ H s) (S : CompOk X scope Nc mp) (h1 : ∀ x c, cl.lookup x = some c → X.env.cells.lookup x = some c) (h2 : ∀ y ∈ scope.names, y.2 = .free → ∃ c, cl.lookup y.1 = some c)
    (hC : s.heap.objs.size ≤ C) (hf : ∀ b ∈ fp, FpOk X pins H b) (ho : ∀ b ∈ fp, b < s.heap.objs.size) : (comp X Nc scope cl C s H fp).Ok where
  mod := I.ok.mod
  kind := S.kind
  glob := I.ok.glob
  blt := I.ok.blt
  above := hC
  inj := fun x y c e e' => I.ok.inj x y c (h1 x c e) (h1 y c e')
  has := fun x hx => by
    have q : scope.names.lookup x = some .free := relabel_back (env := X.env) S.noc hx
    exact h2 (x, .free) (mem_lookup q) rfl
  cab := fun x c hx => absurd (show false = true from hx) Bool.false_ne_true
  hd := I.ok.hd
  frames := I.ok.frames
  stk := .inl rfl
  exf := fun b hb => ⟨fun z => absurd (Nat.lt_of_lt_of_le (ho b hb) hC) (by rw [z]; exact Nat.lt_irrefl _), fun x c e => (hf b hb).2.2.2.2.1 x c (h1 x c e)⟩
  bs := I.bs
  bsz := Nat.le_trans I.ok.bsz I.sz
  noex := fun b o e hb => by
    rcases (hf b hb).2.2.2.1 with z | z
    · exact I.ok.noex b o e z
    · exact absurd (Nat.lt_of_lt_of_le (Heap.lt_size e) (Nat.le_trans I.ok.bsz z)) (Nat.lt_irrefl _)
  exfs := fun b hb z => by
    rcases List.mem_cons.mp (I.stkSub b z) with e | e
    · exact (hf b hb).2.1 e
    · exact (hf b hb).2.2.1 e
  funs := I.stack
  frf := I.stkFree
theorem comp_inv {h' : Heap} {tk : Nat} {D : Addr} {oD : Obj} (I : Inv X pins σ H s) (S : CompOk X scope Nc mp) (h1 : ∀ x c, cl.lookup x = some c → X.env.cells.lookup x = some c) (h2 : ∀ y ∈ scope.names, y.2 = .free → ∃ c, cl.lookup y.1 = some c)
    (hC : s.heap.objs.size ≤ C) (hf : ∀ b ∈ fp, FpOk X pins H b) (ho : ∀ b ∈ fp, b < s.heap.objs.size) (kp : ∀ b o, s.heap.get? b = some o → h'.get? b = some o) {m : Str → Option Value} (hn : h'.Ns C m)
    (hD : s.heap.objs.size ≤ D) (hDC : D ≠ C) (eD : h'.get? D = some oD) (dD : ∀ v, oD.data ≠ .cell v) : Inv (comp X Nc scope cl C s H fp) [(D, oD)] (mapS mp σ) H { s with heap := h', toks := tk } where
  ok := comp_ok I S h1 h2 hC hf ho
  os := rfl
  bare := I.bare
  base := Un.kept kp
  loc := by
    refine ⟨m, hn, fun j x v e1 e2 _ => ?_⟩
    have hj : (mapS mp σ)[j]? = (mp[j]?).map fun o => o.bind fun i => (σ[i]?).bind id := by unfold mapS; rw [List.getElem?_map]
    rw [hj] at e2
    cases e3 : mp[j]? with
    | none => rw [e3] at e2; cases e2
    | some o =>
      rw [e3] at e2
      cases o with
      | none => cases e2
      | some i =>
        obtain ⟨k1, k2, k3⟩ := S.map.at e3 e1
        have e4 : (σ[i]?).bind id = some v := Option.some.inj e2
        have e5 : σ[i]? = some (some v) := by
          cases q : σ[i]? with
          | none => rw [q] at e4; cases e4
          | some z => rw [q] at e4; exact congrArg some e4
        obtain ⟨m0, _, hl⟩ := I.loc
        obtain ⟨u, r, l⟩ := hl i x v k1 e5 (.inr k2)
        refine ⟨u, r, .inr ⟨?_, ?_⟩⟩
        · show (relabel scope X.env).names.lookup x = some .cell ∨ (relabel scope X.env).names.lookup x = some .free
          have go : ∀ {names : List (Str × NameKind)}, names.lookup x = some .free →
              ((names.map fun (n, k) => if (k == NameKind.free && X.env.scope.kind == .function && X.env.kindOf n == some .cell) then (n, NameKind.cell) else (n, k)).lookup x = some .cell ∨
                (names.map fun (n, k) => if (k == NameKind.free && X.env.scope.kind == .function && X.env.kindOf n == some .cell) then (n, NameKind.cell) else (n, k)).lookup x = some .free) := by
            intro names
            induction names with
            | nil => intro q; rw [List.lookup_nil] at q; cases q
            | cons y r ih =>
              obtain ⟨n, k⟩ := y
              intro q
              rw [List.lookup_cons] at q
              rw [List.map_cons]
              dsimp only
              cases hx : x == n with
              | true =>
                rw [hx] at q
                cases q
                by_cases hq : (NameKind.free == NameKind.free && X.env.scope.kind == .function && X.env.kindOf n == some .cell) = true
                · rw [if_pos hq, List.lookup_cons, hx]; exact .inl rfl
                · rw [if_neg hq, List.lookup_cons, hx]; exact .inr rfl
              | false =>
                rw [hx] at q
                by_cases hq : (k == NameKind.free && X.env.scope.kind == .function && X.env.kindOf n == some .cell) = true
                · rw [if_pos hq, List.lookup_cons, hx]; exact ih q
                · rw [if_neg hq, List.lookup_cons, hx]; exact ih q
          exact go k3
        · obtain ⟨c, hc⟩ := h2 (x, .free) (mem_lookup k3) rfl
          refine ⟨c, hc, ?_⟩
          rcases l with ⟨lk, _⟩ | ⟨_, c', hc', oc, hoc, hd⟩
          · have lk' : X.env.scope.names.lookup x = some .local := lk
            rcases k2 with k2 | k2 <;> (rw [lk'] at k2; cases k2)
          · rw [h1 x c hc] at hc'; cases hc'
            exact ⟨oc, kp _ _ hoc, hd⟩
  cell := fun x c e => by
    obtain ⟨v, o, ho', hd⟩ := I.cell x c (h1 x c e)
    exact ⟨v, o, kp _ _ ho', hd⟩
  free := I.hok.fresh hC
  freeC := fun x c e => I.freeC x c (h1 x c e)
  pin := fun p hp => by
    have e : p = (D, oD) := by
      have hp' : p ∈ ([] : List (Addr × Obj)) ++ [(D, oD)] := hp
      simpa using hp'
    subst e
    refine ⟨eD, I.hok.fresh hD, hDC, fun z => ?_, dD⟩
    rcases List.mem_cons.mp (I.stkSub D z) with e | e
    · exact absurd (Nat.lt_of_lt_of_le I.lt hD) (by rw [e]; exact Nat.lt_irrefl _)
    · exact I.nofs hD e
  hok := I.hok.kept kp
  len := by unfold mapS; rw [List.length_map]; exact S.map.len
/-- behind the block: the list at D is tracked now, the block's names are let go -/
theorem comp_out {σ' : L2.St} {H' : Hp} {s' : Shared} {h' : Heap} {D : Addr} {acc : List V} {its : List Value} {n : Nat} (I : Inv X pins σ H s) (hC : s.heap.objs.size ≤ C) (hD : s.heap.objs.size ≤ D) (hDC : D ≠ C) (hf : ∀ b ∈ fp, FpOk X pins H b)
    (J : Inv (comp X Nc scope cl C s H fp) [(D, { cls := .type "list", data := .seq its.toArray n })] σ' H' s') (hs : Heap.SameBut C s'.heap h') (hv : Vals acc its) (hz : acc.length ≤ sizeLine) :
    Inv X pins σ (upd H' D (.lst acc)) { s' with heap := h' } ∧ H' D = none := by
  obtain ⟨eD, nD, _, _, _⟩ := J.pin (D, { cls := .type "list", data := .seq its.toArray n }) (List.mem_append_right _ List.mem_cons_self)
  have nD' : H' D = none := nD
  have u : Un (frs X.stack) fp H H' s.heap s'.heap := J.base
  have neC : ∀ b o, s.heap.get? b = some o → b ≠ C := fun b o e => Nat.ne_of_lt (Nat.lt_of_lt_of_le (Heap.lt_size e) hC)
  have neD : ∀ b o, s.heap.get? b = some o → b ≠ D := fun b o e => Nat.ne_of_lt (Nat.lt_of_lt_of_le (Heap.lt_size e) hD)
  refine ⟨?_, nD'⟩
  refine I.call' (ch := fp) (s' := { s' with heap := h' }) J.os ⟨fun b o e nb hb hx => ?_, fun b o e nb hb hx => ?_, fun b o e nb hx => ?_, fun b o e hx => ?_, fun b xs e => ?_, fun b o xs e => ?_, fun b ps e => ?_⟩ (fun b o e => ?_) J.bare fun b hb => ⟨(hf b hb).2.2.2.1, (hf b hb).2.1, (hf b hb).2.2.2.2.1, (hf b hb).2.2.2.2.2⟩
  · exact (hs.2 b (neC b o e)).trans (u.keep b o e nb hb hx)
  · obtain ⟨sl, q⟩ := u.slot b o e nb hb hx
    exact ⟨sl, (hs.2 b (neC b o e)).trans q⟩
  · rw [upd_ne (neD b o e)]; exact u.free b o e nb hx
  · obtain ⟨o', q⟩ := u.there b o e hx
    exact ⟨o', (hs.2 b (neC b o e)).trans q⟩
  · have q := u.tups b xs e
    rw [upd_ne (ne_of_none q nD')]; exact q
  · have q := u.frzs b o xs e
    rw [upd_ne (ne_of_none q nD')]; exact q
  · obtain ⟨more, q⟩ := u.tbls b ps e
    exact ⟨more, by rw [upd_ne (ne_of_none q nD')]; exact q⟩
  · have freeC' : H' C = none := J.free
    by_cases hb : b = D
    · subst hb
      rw [upd_same] at e; cases e
      exact ⟨hz, its, n, hv, (hs.2 _ hDC).trans eD⟩
    · rw [upd_ne hb] at e
      refine (J.hok b o e).stay (fun c v hc q => (hs.2 c ?_).trans q) (fun c q => by rw [upd_ne (ne_of_none q nD')]; exact q) fun c xs q => by rw [upd_ne (ne_of_none q nD')]; exact q
      rcases hc with z | z
      · rw [z]; exact ne_of_none e freeC'
      · exact ne_of_none z freeC'
end

/-! ### the rule -/
/-- W: the invariant by the turn, a measure, the block's names, the items so far -/
def wComp (J : It) (g : TG) (tt : TT) (te : TE) (Q : VK) (σ : L2.St) (H : Hp) : Prop :=
  ∃ W : Nat → Nat → L2.St → List V → Hp → Prop, (∃ m, W 0 m σ [] H) ∧ ∀ i m σ acc H, W i m σ acc H →
    (J.stop i H ∧ acc.length ≤ sizeLine ∧ ∀ D, H D = none → Q (.ref D) (upd H D (.lst acc))) ∨
    (J.go i H ∧ ∀ x H', J.yld i H x H' → g x σ H' fun σ2 H2 => tt σ2 H2 fun b H3 => if b = true then te σ2 H3 fun v H4 => acc.length < sizeLine ∧ ∃ m', m' < m ∧ W (i + 1) m' σ2 (acc ++ [v]) H4 else ∃ m', m' < m ∧ W (i + 1) m' σ2 acc H3)
def tComp (mp : List (Option Nat)) (wi : TI) (g : TG) (tt : TT) (te : TE) : TE := fun σ H Q => wi σ H fun J H1 => wComp J g tt te Q (mapS mp σ) H1

section
variable {X : Cx} {scope : Scope} {Nc : List Str} {mp : List (Option Nat)} {tg iter elt : Expr} {ifs : List Expr} {pos : Pos} {wi : TI} {g : TG} {tt : TT} {te : TE}

/-- the block: from the iterator on, to what is wanted behind the loop -/
theorem comp_block {pins : List (Addr × Obj)} {σ : L2.St} {H : Hp} {s2 : Shared} {it : Addr} {fp : List Addr} {tn : Nat → Heap → Prop} {J : It} {cl : List (Str × Addr)} {RR : Value → Addr → Result → Shared → Prop} {Q : VK}
    (hc : X.calm = true) (S : CompOk X scope Nc mp)
    (hb : ∀ cl C s H fp, PG (comp X Nc scope cl C s H fp) tg g ∧ PTs (comp X Nc scope cl C s H fp) ifs tt ∧ PE (comp X Nc scope cl C s H fp) elt te)
    (h1 : ∀ x c, cl.lookup x = some c → X.env.cells.lookup x = some c) (h2 : ∀ y ∈ scope.names, y.2 = .free → ∃ c, cl.lookup y.1 = some c)
    (I : Inv X pins σ H s2) (T : Turn X.prog X.w X.K tg J fp it tn) (st : tn 0 s2.heap) (hf : ∀ b ∈ fp, FpOk X pins H b) (hw : wComp J g tt te Q (mapS mp σ) H)
    (hR : ∀ D C s' H', s2.heap.objs.size ≤ C → s2.heap.objs.size ≤ D → D ≠ C → (∃ m, s'.heap.Ns C m) → (∀ h', Heap.SameBut C s'.heap h' → Inv X pins σ H' { s' with heap := h' }) → H' C = none → Q (.ref D) H' → RR (.ref D) C (.ok .next) s') :
    wpAny (model X.prog X.w) X.A (newList []) (fun acc s₃ => wpAny (model X.prog X.w) X.A (newFunctionEnv scope X.env.globals cl [] X.env.qual none .none (some X.env)) (fun cenv s₄ =>
      codeAny (model X.prog X.w) X.A (.compStart (.ListComp elt [⟨tg, iter, ifs, 0⟩] scope pos) 0 (.ref it) acc { cenv with scope := relabel scope X.env }) (RR acc cenv.locals) s₄) X.xe s₃) X.xe s2 := by
  obtain ⟨W, ⟨m0, w0⟩, turn⟩ := hw
  refine wpAny_newObj_type (wpAny_newFunctionEnv S.noc (by intro y hy; simp at hy) (fun h₁ hns₁ hsb₁ => ?_) S.kind)
  dsimp only at hns₁ hsb₁ ⊢
  generalize hH2 : s2.heap.push { cls := .type "list", dict := none, data := .seq ([] : List Value).toArray } = H2 at hns₁ hsb₁ ⊢
  have hC : H2.objs.size = s2.heap.objs.size + 1 := by rw [← hH2, Heap.size_push]
  have hDC : s2.heap.objs.size ≠ H2.objs.size := by rw [hC]; exact Nat.ne_of_lt (Nat.lt_succ_self _)
  have hCle : s2.heap.objs.size ≤ H2.objs.size := by rw [hC]; exact Nat.le_succ _
  have below : ∀ b, b < s2.heap.objs.size → b ≠ H2.objs.size := fun b hb => by rw [hC]; exact Nat.ne_of_lt (Nat.lt_succ_of_lt hb)
  have old : ∀ b o, s2.heap.get? b = some o → h₁.get? b = some o := fun b o e => hsb₁.extBut b o (below b (Heap.lt_size e)) (Heap.get?_push_of_some _ (hH2 ▸ Heap.get?_push_of_some _ e))
  have eD : h₁.get? s2.heap.objs.size = some { cls := .type "list", data := .seq ([] : List Value).toArray 0 } := hsb₁.extBut _ _ hDC (Heap.get?_push_of_some _ (hH2 ▸ Heap.get?_push_size _ rfl))
  have ho : ∀ b ∈ fp, b < s2.heap.objs.size := fun b hb => by
    obtain ⟨o, e, _⟩ := T.obj 0 _ st b hb
    exact Heap.lt_size e
  generalize hYd : comp X Nc scope cl H2.objs.size s2 H fp = Y
  have bodies := hb cl H2.objs.size s2 H fp
  rw [hYd] at bodies
  obtain ⟨hg, htt, hte⟩ := bodies
  have I0 : ∀ tk, Inv Y [(s2.heap.objs.size, { cls := .type "list", data := .seq ([] : List Value).toArray 0 })] (mapS mp σ) H { s2 with heap := h₁, toks := tk } := fun tk => by
    rw [← hYd]
    exact comp_inv I S h1 h2 hCle hf ho old hns₁ (Nat.le_refl _) hDC eD fun v z => by cases z
  have hYp : Y.prog = X.prog := by rw [← hYd]; rfl
  have hYw : Y.w = X.w := by rw [← hYd]; rfl
  have hYK : Y.K = X.K := by rw [← hYd]; rfl
  have hYA : Y.A = X.A := by rw [← hYd]; rfl
  have hYc : Y.calm = true := by rw [← hYd]; exact hc
  have hYx : Y.xe = fun _ _ => False := by rw [← hYd]; rfl
  have hYe : Y.env = compEnvC scope cl H2.objs.size X.env := by rw [← hYd]; rfl
  have hYs : Y.s₀ = s2 := by rw [← hYd]; rfl
  have hYex : Y.ex = fp := by rw [← hYd]; rfl
  have hYpn : Y.pn = [] := by rw [← hYd]; rfl
  have hYfs : Y.fs = frs X.stack := by rw [← hYd]; rfl
  -- the iterator's objects, in the block
  have fpY : ∀ {o : Obj} {H' : Hp}, (∀ b ∈ fp, H' b = none) → ∀ b ∈ fp, FpOk Y [(s2.heap.objs.size, o)] H' b := fun {o H'} hn b hb => by
    refine ⟨hn b hb, ?_, ?_, .inl (by rw [hYex]; exact hb), fun x c e => ?_, fun p hp => ?_⟩
    · rw [hYe]; exact below b (ho b hb)
    · rw [hYfs]
      intro z
      rcases List.mem_cons.mp (I.stkSub b z) with e | e
      · exact (hf b hb).2.1 e
      · exact (hf b hb).2.2.1 e
    · rw [hYe] at e
      exact (hf b hb).2.2.2.2.1 x c (h1 x c e)
    · rw [hYpn] at hp
      have e : p = (s2.heap.objs.size, o) := by simpa using hp
      subst e
      exact Nat.ne_of_gt (ho b hb)
  have loop : ∀ s₃ : Shared, s₃ = { s2 with heap := h₁, toks := s2.toks + ([] : List (Str × Value)).length } →
      codeAny (model X.prog X.w) X.A (.compLoop (.ListComp elt [⟨tg, iter, ifs, 0⟩] scope pos) 0 (.ref it) (.ref s2.heap.objs.size) (compEnvC scope cl H2.objs.size X.env))
        (RR (.ref s2.heap.objs.size) H2.objs.size) s₃ := by
    rintro s₃ rfl
    refine compLoop_any (fun n s' => ∃ i σ' H' acc its k, Inv Y [(s2.heap.objs.size, { cls := .type "list", data := .seq its.toArray k })] σ' H' s' ∧ tn i s'.heap ∧ (∀ b ∈ fp, H' b = none) ∧ Vals acc its ∧ acc.length ≤ sizeLine ∧ W i n σ' acc H') ?_ m0
      ⟨0, mapS mp σ, H, [], [], 0, I0 _, T.keep 0 _ _ st fun b _ o e => old b o e, fun b hb => (hf b hb).1, .nil, Nat.zero_le _, w0⟩
    rintro n s3 ⟨i, σ3, H3, acc, its, k, I3, st3, fr3, hv, hz, w3⟩
    rcases turn i n σ3 acc H3 w3 with ⟨stop, hzz, qn⟩ | ⟨go, step⟩
    · have hd := T.done Y hYp hYw hYK hYc i _ s3 σ3 H3 NE I3 (fpY fr3) st3 stop
      rw [hYA] at hd
      refine thn hd fun r s4 ⟨hr, I4⟩ => ?_
      subst hr
      have I4' := I4
      rw [← hYd] at I4'
      have nC : H3 H2.objs.size = none := by
        have z := I4.free
        rw [hYe] at z
        exact z
      obtain ⟨_, nD⟩ := comp_out I hCle (Nat.le_refl _) hDC hf I4' (Heap.SameBut.refl _ s4.heap) hv hzz
      refine hR _ _ s4 _ hCle (Nat.le_refl _) hDC ?_ (fun h' hs' => (comp_out I hCle (Nat.le_refl _) hDC hf I4' hs' hv hzz).1) ?_ (qn _ nD)
      · obtain ⟨m', hn', _⟩ := I4.loc
        rw [hYe] at hn'
        exact ⟨m', hn'⟩
      · rw [upd_ne (Ne.symm hDC)]; exact nC
    · have hi := T.item Y hYp hYw hYK hYc i _ s3 σ3 H3 NE I3 (fpY fr3) st3 go
      rw [hYA] at hi
      refine thn hi fun r s4 ⟨u, hr, h4⟩ => ?_
      subst hr
      refine thn h4 fun _ s5 ⟨x, H5, I5, r5, y5, st5, fr5⟩ => ?_
      have I5' := I5.pinned (fpY fr5) (T.obj _ _ st5)
      have ha := hg _ s5 σ3 H5 x u _ I5' r5 (step x H5 y5)
      rw [hYp, hYw, hYA, hYe, hYx] at ha
      refine thn ha fun _ s6 ⟨σ6, H6, I6, q6⟩ => ?_
      have ht := htt _ s6 σ6 H6 _ I6 q6
      rw [hYp, hYw, hYA, hYe, hYx] at ht
      refine thn ht fun ok s7 ⟨H7, I7, q7⟩ => ?_
      cases ok with
      | false =>
        have q7' : ∃ m', m' < n ∧ W (i + 1) m' σ6 acc H7 := q7
        obtain ⟨m', hm, w7⟩ := q7'
        rw [if_neg Bool.false_ne_true]
        refine ⟨m', hm, i + 1, σ6, H7, acc, its, k, I7.unpinned, T.keep _ _ _ st5 fun b hb o e => (I7.pin (b, o) (List.mem_append_right _ (List.mem_append_right _ (mem_pinsAt hb e)))).1, fun b hb => ?_, hv, hz, w7⟩
        obtain ⟨o, e, d⟩ := T.obj _ _ st5 b hb
        exact (I7.pin (b, o) (List.mem_append_right _ (List.mem_append_right _ (mem_pinsAt hb e)))).2.1
      | true =>
        rw [if_pos rfl]
        have he := hte _ s7 σ6 H7 _ I7 q7
        rw [hYp, hYw, hYA, hYe, hYx] at he
        refine thn he fun x4 s8 ⟨v, H8, I8, r8, hlt, m', hm, w8⟩ => ?_
        have st8 : tn (i + 1) s8.heap := T.keep _ _ _ st5 fun b hb o e => (I8.pin (b, o) (List.mem_append_right _ (List.mem_append_right _ (mem_pinsAt hb e)))).1
        have fr8 : ∀ b ∈ fp, H8 b = none := fun b hb => by
          obtain ⟨o, e, d⟩ := T.obj _ _ st5 b hb
          exact (I8.pin (b, o) (List.mem_append_right _ (List.mem_append_right _ (mem_pinsAt hb e)))).2.1
        have I8' := I8.unpinned
        obtain ⟨e8, n8, ne8, nf8, _⟩ := I8'.pin (s2.heap.objs.size, { cls := .type "list", data := .seq its.toArray k }) (List.mem_append_right _ List.mem_cons_self)
        refine wpAny_list_append_plain (items := its.toArray) ⟨k, e8⟩ (fun h9 hl9 hs9 => ?_) (by rw [List.size_toArray, ← hv.length]; exact hz)
        obtain ⟨k9, e9⟩ := hl9
        have ep : its.toArray.push x4 = (its ++ [x4]).toArray := by simp
        rw [ep] at e9
        -- the list has turned
        have I9 : Inv Y [] σ6 H8 { s8 with heap := h9 } := by
          refine (I8'.pins_of (pins' := []) fun p hp => nomatch hp).turned (t' := s8.toks) (it := s2.heap.objs.size) (fun b o hb e => (hs9.2 b hb).trans e) n8 ne8 (.inr (by rw [hYs]; exact Nat.le_refl _)) (fun x c e z => ?_) fun p hp => ?_
          · rw [hYe] at e
            obtain ⟨v', o', ho', _⟩ := I.cell x c (h1 x c e)
            exact absurd (Heap.lt_size ho') (by rw [z]; exact Nat.lt_irrefl _)
          · rw [hYpn] at hp
            exact absurd hp (by simp)
        refine ⟨m', hm, i + 1, σ6, H8, acc ++ [v], its ++ [x4], k9, I9.pins_of fun p hp => ?_, ?_, fr8, hv.append (.cons r8 .nil), ?_, w8⟩
        · have e : p = (s2.heap.objs.size, { cls := .type "list", data := .seq (its ++ [x4]).toArray k9 }) := by simpa using hp
          subst e
          exact ⟨e9, n8, ne8, nf8, fun v z => by cases z⟩
        · exact T.keep _ _ _ st8 fun b hb o e => (hs9.2 b (Nat.ne_of_lt (ho b hb))).trans e
        · rw [List.length_append, List.length_singleton]; omega
  have hself := T.self X.A 0 { s2 with heap := h₁, toks := s2.toks + ([] : List (Str × Value)).length } (fun it' s' => codeAny (model X.prog X.w) X.A (.compLoop (.ListComp elt [⟨tg, iter, ifs, 0⟩] scope pos) 0 it' (.ref s2.heap.objs.size) (compEnvC scope cl H2.objs.size X.env))
        (RR (.ref s2.heap.objs.size) H2.objs.size) s') (notedBy (model X.prog X.w) X.A (compEnvC scope cl H2.objs.size X.env) fun x s' => RR (.ref s2.heap.objs.size) H2.objs.size (.error x) s') (T.keep 0 _ _ st fun b _ o e => old b o e) (loop _ rfl)
  exact codeAny_compStart_list (loop _ rfl) hself

theorem clos_of (S : CompOk X scope Nc mp) {pins : List (Addr × Obj)} {σ : L2.St} {H : Hp} {s : Shared} (I : Inv X pins σ H s) : ∃ cl, closureFor scope X.env = pure cl ∧ (∀ x c, cl.lookup x = some c → X.env.cells.lookup x = some c) ∧ (∀ y ∈ scope.names, y.2 = .free → ∃ c, cl.lookup y.1 = some c) :=
  closure_ok fun y hy hf => I.ok.has y.1 (S.fre y hy hf)

/-- [elt for tg in iter if ..] -/
theorem pe_comp (hc : X.calm = true) (S : CompOk X scope Nc mp) (hi : PI X tg iter wi)
    (hb : ∀ cl C s H fp, PG (comp X Nc scope cl C s H fp) tg g ∧ PTs (comp X Nc scope cl C s H fp) ifs tt ∧ PE (comp X Nc scope cl C s H fp) elt te)
    (hs : ∀ x, foldedSetIterable iter X.env x = pure x := by intro _; rfl) : PE X (.ListComp elt [⟨tg, iter, ifs, 0⟩] scope pos) (tComp mp wi g tt te) := by
  intro pins s σ H Q I h
  obtain ⟨cl, hcl, h1, h2⟩ := clos_of S I
  rw [eval_ListComp]
  refine wpAny_comprehension_free (use := none) rfl hs hcl S.kind S.loc (thn (hi pins s σ H _ I h) fun v s1 hv => thn hv fun itv s2 hq => ?_)
  obtain ⟨it, fp, tn, J, H2, e, I2, T, st2, f2, hw⟩ := hq
  subst e
  refine comp_block (RR := fun acc C => compPost (model X.prog X.w) X.A X.xe none (EP X pins σ Q) acc C) (Q := Q) hc S hb h1 h2 I2 T st2 f2 hw fun D C s' H' hC hD hDC hm hI hn hq => ?_
  obtain ⟨m, hm⟩ := hm
  exact ⟨m, hm, fun h' hs' => ⟨.ref D, H', hI h' hs', rfl, hq⟩⟩

/-- x = [elt for tg in iter if ..] -/
theorem ps_setC {i : Nat} {x : Str} {pos' spos : Pos} (hc : X.calm = true) (hN : X.N.Nodup) (hiN : X.N[i]? = some x) (hx : X.env.scope.names.lookup x = some .local) (S : CompOk X scope Nc mp) (hi : PI X tg iter wi)
    (hb : ∀ cl C s H fp, PG (comp X Nc scope cl C s H fp) tg g ∧ PTs (comp X Nc scope cl C s H fp) ifs tt ∧ PE (comp X Nc scope cl C s H fp) elt te)
    (hsw : swapsWith (.ListComp elt [⟨tg, iter, ifs, 0⟩] scope pos) (some (.Name x pos')) spos.line X.env = pure true := by rfl)
    (hs : ∀ x, foldedSetIterable iter X.env x = pure x := by intro _; rfl) : PS X (.Assign [.Name x pos'] (.ListComp elt [⟨tg, iter, ifs, 0⟩] scope pos) spos) (tAsg (tComp mp wi g tt te) (gName i)) := by
  intro pins s σ H D I h
  obtain ⟨cl, hcl, h1, h2⟩ := clos_of S I
  rw [exec_Assign_Name_used _ _ _ _ hsw]
  refine wpAny_bind (wpAny_standAt (wpAny_bind ?_))
  show wpAny _ X.A (do let _ ← comprehension (.ListComp elt [⟨tg, iter, ifs, 0⟩] scope pos) scope X.env _ (newList []) false (eval iter X.env) (some (assign (.Name x pos') X.env))) _ _ s
  refine wpAny_bind (wpAny_mono (wpAny_comprehension_free (use := some (assign (.Name x pos') X.env)) (Q := fun _ s' => SP X pins D .next s') rfl hs hcl S.kind S.loc (thn (hi pins s σ H _ I h) fun v s1 hv => thn hv fun itv s2 hq => ?_)) (fun _ s' hq => wpAny_pure (wpAny_pure hq)) fun _ _ e => e)
  obtain ⟨it, fp, tn, J, H2, e, I2, T, st2, f2, hw⟩ := hq
  subst e
  refine comp_block (RR := fun acc C => compPost (model X.prog X.w) X.A X.xe (some (assign (.Name x pos') X.env)) (fun _ s' => SP X pins D .next s') acc C) (Q := fun v H1 => D.nx (σ.set i (some v)) H1) hc S hb h1 h2 I2 T st2 f2 hw fun A C s' H' hC hD hDC hm hI hn hq => ?_
  obtain ⟨m, hm⟩ := hm
  show wpAny _ X.A (assign (.Name x pos') X.env (.ref A)) _ _ s'
  have I0 : Inv X pins σ H' s' := hI s'.heap (Heap.SameBut.refl ..)
  have hLC : X.env.locals ≠ C := Nat.ne_of_lt (Nat.lt_of_lt_of_le I2.lt hC)
  have hcC : ∀ y c, X.env.cells.lookup y = some c → c ≠ C := fun y c e z => by
    obtain ⟨v, o, ho, _⟩ := I2.cell y c e
    exact absurd (Nat.lt_of_lt_of_le (Heap.lt_size ho) hC) (by rw [z]; exact Nat.lt_irrefl _)
  refine wpAny_assign_Name (store_ok2 I0 hN hiN (.inl hx) (show RelV (.ref A) (.ref A) from rfl) (fun s6 I6 hch => ?_) (.inr hx))
  obtain ⟨a, hs6, ha⟩ := hch
  have hCa : C ≠ a := by
    rcases ha with z | z
    · rw [z]; exact Ne.symm hLC
    · exact Ne.symm (hcC x a z)
  refine ⟨m, hm.sameBut hs6 hCa, fun h' hs' => ?_⟩
  have I7 : Inv X pins (σ.set i (some (.ref A))) H' { s6 with heap := h' } := I6.turned (t' := s6.toks) (it := C) (fun b o hb e => (hs'.2 b hb).trans e) hn (Ne.symm hLC) (.inr (Nat.le_trans I2.sz hC)) hcC fun p hp z => by
    exact absurd (Nat.lt_of_lt_of_le (Heap.lt_size (I2.pin p hp).1) hC) (by rw [z]; exact Nat.lt_irrefl _)
  exact ⟨_, H', I7, hq⟩
end
end L3

set_option Elab.async false
set_option linter.all false
set_option maxRecDepth 100000
set_option maxHeartbeats 4000000
/-! TEXTS, slices, all, isinstance, is .. over the layer. -/
namespace L3
open PySem PySem.Spec PyProof.Rows L2

/-! ### slices -/
theorem bounds_gen (lo hi : Option Int) (n : Nat) : sliceBounds lo hi none n = (((HT.sIx n 0 lo : Nat) : Int), ((HT.sIx n n hi : Nat) : Int), 1) := by
  have clip : ∀ (v : Int), max 0 (min (if v < 0 then v + (n : Int) else v) (n : Int)) = (((if v < 0 then (v + (n : Int)).toNat else min v.toNat n) : Nat) : Int) := fun v => by
    by_cases hv : v < 0
    · rw [if_pos hv, if_pos hv]; omega
    · rw [if_neg hv, if_neg hv]; omega
  unfold sliceBounds
  refine Prod.ext ?_ (Prod.ext ?_ rfl)
  · cases lo with
    | none => rfl
    | some v => exact clip v
  · cases hi with
    | none => rfl
    | some v => exact clip v
theorem slicePick_cut (its : List Value) (lo hi : Option Int) : slicePick its.toArray lo hi none = ((its.drop (HT.sIx its.length 0 lo)).take (HT.sIx its.length its.length hi - HT.sIx its.length 0 lo)).toArray := by
  unfold slicePick
  rw [bounds_gen, List.size_toArray]
  dsimp only
  rw [sliceRange_one, pick_run]
theorem strIx_gen (lo hi : Option Int) (n : Nat) : Builtin.Str.strSliceIndices lo hi 1 n = (List.range (HT.sIx n n hi - HT.sIx n 0 lo)).map (HT.sIx n 0 lo + ·) := by
  have clip : ∀ (v : Int), max 0 (min (if v < 0 then v + (n : Int) else v) (n : Int)) = (((if v < 0 then (v + (n : Int)).toNat else min v.toNat n) : Nat) : Int) := fun v => by
    by_cases hv : v < 0
    · rw [if_pos hv, if_pos hv]; omega
    · rw [if_neg hv, if_neg hv]; omega
  rw [← sliceRange_one]
  unfold Builtin.Str.strSliceIndices
  have e1 : (match lo with | none => (0 : Int) | some i => max 0 (min (if i < 0 then i + (n : Int) else i) (n : Int))) = ((HT.sIx n 0 lo : Nat) : Int) := by
    cases lo with
    | none => rfl
    | some v => exact clip v
  have e2 : (match hi with | none => (n : Int) | some i => max 0 (min (if i < 0 then i + (n : Int) else i) (n : Int))) = ((HT.sIx n n hi : Nat) : Int) := by
    cases hi with
    | none => rfl
    | some v => exact clip v
  rw [← e1, ← e2]
  cases lo <;> cases hi <;> rfl
/-- the signs of z[lo:hi] -/
def cutL (l : List Nat) (lo hi : Option Int) : List Nat := (l.drop (HT.sIx l.length 0 lo)).take (HT.sIx l.length l.length hi - HT.sIx l.length 0 lo)
theorem slice_cut (z : Str) (lo hi : Option Int) : Txt.slice z lo hi = ⟨(cutL z.cps.toList lo hi).toArray⟩ := by
  have hl : z.cps.toList.length = z.length := by simp [Str.length]
  have hb : HT.sIx z.length z.length hi ≤ z.length := HT.sIx_le _ _ (Nat.le_refl _) hi
  unfold Txt.slice cutL
  rw [strIx_gen, hl]
  by_cases h : ((1 : Int) == 1 && ((List.range (HT.sIx z.length z.length hi - HT.sIx z.length 0 lo)).map (HT.sIx z.length 0 lo + ·)).length == z.length) = true
  · rw [if_pos h]
    rw [Bool.and_eq_true, List.length_map, List.length_range] at h
    have h2 := eq_of_beq h.2
    have e : (z.cps.toList.drop (HT.sIx z.length 0 lo)).take (HT.sIx z.length z.length hi - HT.sIx z.length 0 lo) = z.cps.toList := by
      by_cases h0 : z.length = 0
      · have : z.cps.toList = [] := List.eq_nil_of_length_eq_zero (by rw [hl]; exact h0)
        rw [this]; simp
      · have ha : HT.sIx z.length 0 lo = 0 := by omega
        rw [ha, List.drop_zero]
        exact List.take_of_length_le (by rw [hl]; omega)
    rw [e]
  · rw [if_neg h, pick_run]
theorem str_mk (z : Str) : (⟨z.cps.toList.toArray⟩ : Str) = z := by cases z; simp

section
variable {X : Cx}
def rSlLs (K : PySem.W.Frag) : V → Option Int → Option Int → Hp → VK → Prop := fun x lo hi H Q => ∃ a xs, x = .ref a ∧ SqL K H a xs ∧ ∀ p, H p = none → Q (.ref p) (upd H p (.lst (cutV xs lo hi)))
theorem sl_lst : SlR X (rSlLs X.K) := by
  intro pins s σ H x v vl vu lo hi sl Q I rx hs pl pu h
  obtain ⟨a, xs, rfl, hx, q⟩ := h
  cases rx
  obtain ⟨its, r, hp, hz⟩ := I.list hx
  refine ⟨"list", _, list_getitem_lookup, hp.isList.typeIs, ?_⟩
  refine wpAny_getItem_list_slice hp.isList hs pl pu .none (by simp) ?_ (by rw [List.size_toArray, ← r.length]; exact hz)
  rw [slicePick_cut, ← r.length]
  exact ⟨.ref _, _, I.lnew (t' := s.toks) ((r.drop _).take _) (Nat.le_trans (cutV_length xs lo hi) hz), rfl, q _ I.fresh⟩
def rSlS : V → Option Int → Option Int → Hp → VK → Prop := fun x lo hi H Q => ∃ z, x = .str z ∧ z.length ≤ sizeLine ∧ Q (.str ⟨(cutL z.cps.toList lo hi).toArray⟩) H
theorem sl_str : SlR X rSlS := by
  intro pins s σ H x v vl vu lo hi sl Q I rx hs pl pu h
  obtain ⟨z, rfl, hz, q⟩ := h
  obtain ⟨t, rfl⟩ := rx
  refine ⟨"str", _, F.slot_str_getitem.lookup, typeIs_str _ _ _, ?_⟩
  have fin : ∀ t' k, EP X pins σ Q (.str (Txt.slice z lo hi) t') { s with toks := k } := fun t' k => by
    rw [slice_cut]
    exact ⟨.str _, H, I.tok _, ⟨_, rfl⟩, q⟩
  obtain ⟨os, hos, hcs, hds⟩ := id hs
  cases pl with
  | none =>
    cases pu with
    | none => exact wpAny_getItem_str_slice (l := none) (u := none) (st := none) ⟨os, hos, hcs, hds⟩ rfl (post_val_or_str ⟨Nat.le_trans (Txt.slice_le z _ _) hz, fin⟩)
    | int j uj => exact wpAny_getItem_str_slice (l := none) (u := some (j, uj)) (st := none) ⟨os, hos, hcs, hds⟩ rfl (post_val_or_str ⟨Nat.le_trans (Txt.slice_le z _ _) hz, fin⟩)
  | int i ui =>
    cases pu with
    | none => exact wpAny_getItem_str_slice (l := some (i, ui)) (u := none) (st := none) ⟨os, hos, hcs, hds⟩ rfl (post_val_or_str ⟨Nat.le_trans (Txt.slice_le z _ _) hz, fin⟩)
    | int j uj => exact wpAny_getItem_str_slice (l := some (i, ui)) (u := some (j, uj)) (st := none) ⟨os, hos, hcs, hds⟩ rfl (post_val_or_str ⟨Nat.le_trans (Txt.slice_le z _ _) hz, fin⟩)

/-! ### sep.join, text.index, all -/
theorem strsAre_of {ws : List Str} : ∀ {us : List Value}, Vals (ws.map V.str) us → StrsAre us ws := by
  induction ws with
  | nil => intro us r; rw [List.map_nil] at r; cases r; exact .nil
  | cons z ws ih =>
    intro us r
    rw [List.map_cons] at r
    cases r with
    | cons r1 r2 =>
      obtain ⟨t, e⟩ := r1
      subst e
      exact .cons z t (ih r2)
def rJoin (K : PySem.W.Frag) : V → List V → Hp → VK → Prop := fun x vs H Q => ∃ sep p ws, x = .str sep ∧ vs = [.ref p] ∧ (SqL K H p (ws.map V.str) ∨ SqT K H p (ws.map V.str)) ∧ (ws.map (·.length)).sum + ws.length * sep.length ≤ 16777216 ∧ Q (.str (Txt.join sep ws)) H
theorem mt_join : MtR X "str.join" (rJoin X.K) := by
  intro pins s σ H x xs v us Q I rx rv h
  obtain ⟨sep, p, ws, rfl, rfl, hq, hz, q⟩ := h
  obtain ⟨t, rfl⟩ := rx
  obtain ⟨u, rfl, ru⟩ := rv.one
  cases ru
  rcases hq with hq | hq
  · obtain ⟨its, r, hp, _⟩ := I.list hq
    exact join_list hp.isList (by simpa using strsAre_of r) hz fun t' k => ⟨.str _, H, I.tok _, ⟨_, rfl⟩, q⟩
  · obtain ⟨its, r, hp, _⟩ := I.tuple hq
    exact join_tuple hp (by simpa using strsAre_of r) hz fun t' k => ⟨.str _, H, I.tok _, ⟨_, rfl⟩, q⟩
theorem all_range (bs : List Bool) : (List.range bs.length).all (fun i => bs.getD i false) = bs.all id := by
  rw [Bool.eq_iff_iff, List.all_eq_true, List.all_eq_true]
  constructor
  · intro h b hb
    obtain ⟨i, hi, e⟩ := List.mem_iff_getElem.mp hb
    have := h i (List.mem_range.mpr hi)
    rw [List.getD_eq_getElem?_getD, List.getElem?_eq_getElem hi] at this
    rw [← e]; exact this
  · intro h i hi
    have hi' := List.mem_range.mp hi
    rw [List.getD_eq_getElem?_getD, List.getElem?_eq_getElem hi']
    exact h _ (List.getElem_mem hi')
theorem call_all (hc : X.calm = true) : CallR X (.builtin "all") (fun xs H Q => ∃ (p : Addr) (bs : List Bool), xs = [.ref p] ∧ SqL X.K H p (bs.map V.bl) ∧ Q (.bl (bs.all id)) H) := by
  intro pins s σ H xs us Q I r h
  obtain ⟨p, bs, rfl, hq, q⟩ := h
  obtain ⟨u, rfl, ru⟩ := r.one
  cases ru
  obtain ⟨its, rv, hp, hz⟩ := I.list hq
  have hlt : p < s.heap.objs.size := by obtain ⟨_, e, _⟩ := hp.isList; exact Heap.lt_size e
  refine call_all_walk (wpAny_pyIter_list hp.isList ?_)
  refine ⟨s.heap.objs.size, [s.heap.objs.size, p], [s.heap.objs.size], its.toArray.size, _, _, fun i => bs.getD i false, rfl, Walks.list (A := X.A.in1) (I.ok.hd hc) _ _ (Nat.ne_of_lt hlt) its.toArray, ⟨⟨_, Heap.get?_push_size _ rfl, rfl, rfl⟩, hp.isList.push _⟩, ?_, ?_⟩
  · intro i v s' Q' E' hv hQ'
    have hv' : its[i]? = some v := by simpa using hv
    have hi : i < (bs.map V.bl).length := by
      rw [rv.length]; exact (List.getElem?_eq_some_iff.mp hv').1
    have hib : i < bs.length := by simpa using hi
    obtain ⟨u, hu, ru⟩ := rv.get (i := i) (x := V.bl bs[i]) (by rw [List.getElem?_map, List.getElem?_eq_getElem hib]; rfl)
    rw [hv'] at hu; cases hu
    cases ru
    have e : bs.getD i false = bs[i] := by rw [List.getD_eq_getElem?_getD, List.getElem?_eq_getElem hib]; rfl
    dsimp only at hQ'
    rw [e] at hQ'
    exact wpAny_truthy_bool hQ'
  · intro h' tk hk
    have el : its.toArray.size = bs.length := by rw [List.size_toArray, ← rv.length, List.length_map]
    rw [el, all_range]
    exact ⟨.bl _, H, I.kept fun b o e => hk b o (fun z => absurd (Heap.lt_size e) (by rw [List.mem_singleton.mp z]; exact Nat.lt_irrefl _)) (Heap.get?_push_of_some _ e), rfl, q⟩

/-! ### is, is not of bools; isinstance -/
theorem call_isi : CallR X (.builtin "isinstance") (fun xs H Q => ∃ x n t b, xs = [x, .ty n] ∧ TyOf X.K H x t ∧ PySem.W.kitOne X.K t (.type n) = some b ∧ Q (.bl b) H) := by
  intro pins s σ H xs us Q I r h
  obtain ⟨x, n, t, b, rfl, ty, e, q⟩ := h
  obtain ⟨u, u2, rfl, r1, r2⟩ := r.two
  cases r2
  exact isinst_ok I r1 ty e fun tk => ⟨.bl b, H, I.tok _, rfl, q⟩

/-! ### a text, sign by sign -/
def Its (z : Str) : It := ⟨fun i _ => i < z.length, fun i H x H' => H' = H ∧ ∃ c, z.cps[i]? = some c ∧ x = .str ⟨#[c]⟩, fun i _ => z.length ≤ i⟩
theorem turn_str {P : Program} {w : World} {K : PySem.W.Frag} {tg : Expr} (z : Str) (t : Tok) (it : Addr) : Turn P w K tg (Its z) [it] it (fun i h => h.IsStrIter it (strIterType z) z t i) where
  mem := by simp
  obj := fun i h st b hb => by
    have e : b = it := by simpa using hb
    subst e
    obtain ⟨o, e, c, d⟩ := st
    exact ⟨o, e, fun v z => by rw [d] at z; cases z⟩
  keep := fun i h h' st k => by
    obtain ⟨o, e, r⟩ := st
    exact ⟨o, k it (by simp) o e, r⟩
  item := by
    intro X hP hw hK hc i pins s σ H E I hf st hg
    subst hP hw hK
    have hg' : i < z.cps.size := hg
    obtain ⟨f0, f1, f2, f3, f4, f5⟩ := hf it (by simp)
    have fin : ∀ h' tk, h'.IsStrIter it (strIterType z) z t (i + 1) → Heap.SameBut it s.heap h' → ∃ u, some (Value.str ⟨#[z.cps[i]]⟩ s.toks) = some u ∧
        wpAny (model X.prog X.w) X.A (letOwnedTupleGo tg (.ref it) u) (fun _ s2 => ∃ x H', Inv X pins σ H' s2 ∧ RelV x u ∧ (Its z).yld i H x H' ∧ s2.heap.IsStrIter it (strIterType z) z t (i + 1) ∧ ∀ b ∈ [it], H' b = none) E { s with heap := h', toks := tk } := fun h' tk st' sb => by
      have I1 : Inv X pins σ H { s with heap := h', toks := tk } := I.turned (fun b o hb e => (sb.2 b hb).trans e) f0 f1 f3 f4 f5
      obtain ⟨o, e, c, d⟩ := id st'
      refine ⟨_, rfl, go_of (s := { s with heap := h', toks := tk }) e c d ?_ ⟨.str ⟨#[z.cps[i]]⟩, H, I1, ⟨_, rfl⟩, ⟨rfl, _, by simp [hg'], rfl⟩, st', fun b hb => (hf b hb).1⟩⟩
      unfold strIterType
      split <;> decide
    cases ha : z.cps.all (· < 128) with
    | true =>
      have e : strIterType z = "str_ascii_iterator" := by simp [strIterType, ha]
      rw [e] at st fin ⊢
      exact wpAny_pyNext_ascii_item st (c := z.cps[i]) (by simp [hg']) fun h' st' sb => fin h' _ st' sb
    | false =>
      have e : strIterType z = "str_iterator" := by simp [strIterType, ha]
      rw [e] at st fin ⊢
      exact wpAny_pyNext_wide_item st (c := z.cps[i]) (by simp [hg']) fun h' st' sb => fin h' _ st' sb
  done := by
    intro X hP hw hK hc i pins s σ H E I hf st hg
    subst hP hw hK
    have hg' : z.cps.size ≤ i := hg
    obtain ⟨f0, f1, f2, f3, f4, f5⟩ := hf it (by simp)
    cases ha : z.cps.all (· < 128) with
    | true =>
      have e : strIterType z = "str_ascii_iterator" := by simp [strIterType, ha]
      rw [e] at st
      exact wpAny_pyNext_ascii_end (I.ok.hd hc) st (by simp [hg']) fun h' eb => ⟨rfl, I.turned (t' := s.toks) (fun b o hb e => eb b o hb e) f0 f1 f3 f4 f5⟩
    | false =>
      have e : strIterType z = "str_iterator" := by simp [strIterType, ha]
      rw [e] at st
      exact wpAny_pyNext_wide_end (I.ok.hd hc) st (by simp [hg']) fun h' eb => ⟨rfl, I.turned (t' := s.toks) (fun b o hb e => eb b o hb e) f0 f1 f3 f4 f5⟩
  self := fun _ _ _ _ _ st h => by
    cases ha : z.cps.all (· < 128) with
    | true =>
      have e : strIterType z = "str_ascii_iterator" := by simp [strIterType, ha]
      rw [e] at st
      exact wpAny_pyIter_striter_ascii st h
    | false =>
      have e : strIterType z = "str_iterator" := by simp [strIterType, ha]
      rw [e] at st
      exact wpAny_pyIter_striter_wide st h
def iStr (tl : TE) : TI := fun σ H R => tl σ H fun x H1 => ∃ z, x = .str z ∧ R (Its z) H1
theorem pi_str {tg l : Expr} {tl : TE} (hl : PE X l tl) : PI X tg l (iStr tl) := by
  intro pins s σ H R I h
  refine thn (hl pins s σ H _ I h) fun v s1 ⟨x, H1, I1, r1, q1⟩ => ?_
  obtain ⟨z, e, q⟩ := q1
  subst e
  obtain ⟨t, rfl⟩ := r1
  refine wpAny_pyIter_strU ?_
  refine ⟨s1.heap.objs.size, [s1.heap.objs.size], _, _, H1, rfl, I1.kept (t' := s1.toks) fun b o e => Heap.get?_push_of_some _ e, turn_str z t _, ⟨_, Heap.get?_push_size _ rfl, rfl, rfl⟩, fun b hb => ?_, q⟩
  have e : b = s1.heap.objs.size := by simpa using hb
  subst e
  exact I1.fpOk (Nat.le_refl _) (I1.hok.fresh (Nat.le_refl _))
end
end L3

set_option Elab.async false
set_option linter.all false
set_option maxRecDepth 100000
set_option maxHeartbeats 4000000
/-! COMPREHENSIONS that leave the heap as it is; small words. -/
namespace L3
open PySem PySem.Spec PyProof.Rows L2

/-! ### the block's names, by computing -/
def mapChk (sc : Scope) (N : List Str) (own : Scope) : List Str → List (Option Nat) → Bool
  | [], [] => true
  | _ :: r, none :: m => mapChk sc N own r m
  | x :: r, some i :: m => (N[i]? == some x && (sc.names.lookup x == some .cell || sc.names.lookup x == some .free) && own.names.lookup x == some .free) && mapChk sc N own r m
  | _, _ => false
def compChk (sc : Scope) (N : List Str) (own : Scope) (Nc : List Str) (mp : List (Option Nat)) : Bool :=
  (own.kind == .function) && (own.names.all fun y => y.2 != .cell) && (own.names.all fun y => y.2 != .local || own.names.lookup y.1 == some .local) &&
  (own.names.all fun y => y.2 != .free || (sc.names.lookup y.1 == some .cell || sc.names.lookup y.1 == some .free)) && mapChk sc N own Nc mp
theorem mapChk_ok {X : Cx} {own : Scope} : ∀ {Nc : List Str} {mp : List (Option Nat)}, mapChk X.env.scope X.N own Nc mp = true → MapOk X own Nc mp
  | [], [], _ => trivial
  | _ :: r, none :: m, h => mapChk_ok (Nc := r) (mp := m) h
  | x :: r, some i :: m, h => by
    unfold mapChk at h
    simp only [Bool.and_eq_true, Bool.or_eq_true, beq_iff_eq] at h
    exact ⟨⟨h.1.1.1, h.1.1.2, h.1.2⟩, mapChk_ok h.2⟩
  | [], _ :: _, h => absurd (show false = true from h) Bool.false_ne_true
  | _ :: _, [], h => absurd (show false = true from h) Bool.false_ne_true
theorem CompOk.of {X : Cx} {own : Scope} {Nc : List Str} {mp : List (Option Nat)} (h : compChk X.env.scope X.N own Nc mp = true) : CompOk X own Nc mp := by
  unfold compChk at h
  simp only [Bool.and_eq_true, List.all_eq_true, Bool.or_eq_true, beq_iff_eq, bne_iff_ne] at h
  obtain ⟨⟨⟨⟨h1, h2⟩, h3⟩, h4⟩, h5⟩ := h
  refine ⟨h1, h2, fun y hy e => ?_, fun y hy e => ?_, mapChk_ok h5⟩
  · rcases h3 y hy with z | z
    · exact absurd e z
    · exact z
  · rcases h4 y hy with z | z
    · exact absurd e z
    · exact z

/-! ### sources that do not change -/
structure Src (J : It) (H : Hp) (xs : List V) : Prop where
  go : ∀ i, i < xs.length → J.go i H
  yld : ∀ i x H', i < xs.length → J.yld i H x H' → H' = H ∧ xs[i]? = some x
  stop : ∀ i, xs.length ≤ i → J.stop i H
theorem src_str (z : Str) (H : Hp) : Src (Its z) H (z.cps.toList.map fun c => V.str ⟨#[c]⟩) where
  go := fun i h => by
    rw [List.length_map, Array.length_toList] at h
    exact h
  yld := fun i x H' _ h => by
    obtain ⟨e, c, hc, rfl⟩ := h
    exact ⟨e, by rw [List.getElem?_map, Array.getElem?_toList, hc]; rfl⟩
  stop := fun i h => by
    rw [List.length_map, Array.length_toList] at h
    exact h
theorem src_range (lo : Int) (n : Nat) (H : Hp) : Src (Itr lo n) H ((List.range n).map fun i => V.int (lo + (i : Nat))) where
  go := fun i h => by
    rw [List.length_map, List.length_range] at h
    exact h
  yld := fun i x H' hi h => by
    obtain ⟨e, rfl⟩ := h
    rw [List.length_map, List.length_range] at hi
    exact ⟨e, by rw [List.getElem?_map, List.getElem?_range hi]; rfl⟩
  stop := fun i h => by
    rw [List.length_map, List.length_range] at h
    exact h
theorem src_list {K : PySem.W.Frag} {H : Hp} {a : Addr} {xs : List V} (h : SqL K H a xs) : Src (Itl K a) H xs where
  go := fun i hi => ⟨xs, xs[i], h, by simp [hi]⟩
  yld := fun i x H' _ q => ⟨q.1, q.2 xs h⟩
  stop := fun i hi => ⟨xs, h, hi⟩
theorem src_tup {K : PySem.W.Frag} {H : Hp} {a : Addr} {xs : List V} (h : SqT K H a xs) : Src (Itt K a) H xs where
  go := fun i hi => ⟨xs, xs[i], h, by simp [hi]⟩
  yld := fun i x H' _ q => ⟨q.1, q.2 xs h⟩
  stop := fun i hi => ⟨xs, h, hi⟩

/-- a comprehension whose tests and items leave the heap as it is -/
theorem comp_pure {α : Type} {J : It} {H : Hp} {as : List α} {v : α → V} (f : α → Bool) (e : α → V) {tt : TT} {te : TE} {Q : VK} {rest : L2.St} (S : Src J H (as.map v)) (hz : as.length ≤ sizeLine)
    (ht : ∀ a ∈ as, ∀ k : Bool → Hp → Prop, k (f a) H → tt (some (v a) :: rest) H k) (he : ∀ a ∈ as, f a = true → ∀ k : VK, k (e a) H → te (some (v a) :: rest) H k)
    (hq : ∀ D, H D = none → Q (.ref D) (upd H D (.lst ((as.filter f).map e)))) : wComp J (gName 0) tt te Q (none :: rest) H := by
  refine ⟨fun i m σ acc H' => H' = H ∧ i ≤ as.length ∧ m = as.length - i ∧ acc = ((as.take i).filter f).map e ∧ ∃ o, σ = o :: rest, ⟨as.length, rfl, Nat.zero_le _, rfl, by simp, none, rfl⟩, ?_⟩
  rintro i m σ acc H' ⟨rfl, hi, rfl, rfl, o, rfl⟩
  have hacc : (((as.take i).filter f).map e).length ≤ i := by
    rw [List.length_map]
    exact Nat.le_trans (List.length_filter_le _ _) (by rw [List.length_take]; exact Nat.min_le_left _ _)
  by_cases hlt : i < as.length
  · refine .inr ⟨S.go i (by rw [List.length_map]; exact hlt), fun x H1 y => ?_⟩
    obtain ⟨rfl, hx⟩ := S.yld i x H1 (by rw [List.length_map]; exact hlt) y
    rw [List.getElem?_map, List.getElem?_eq_getElem hlt] at hx
    have hx' : v as[i] = x := Option.some.inj hx
    subst hx'
    have hm : as[i] ∈ as := List.getElem_mem hlt
    have ts : as.take (i + 1) = as.take i ++ [as[i]] := List.take_succ_eq_append_getElem hlt
    show tt (some (v as[i]) :: rest) H1 _
    refine ht _ hm _ ?_
    cases hf : f as[i] with
    | true =>
      rw [if_pos rfl]
      refine he _ hm hf _ ⟨by omega, as.length - (i + 1), by omega, rfl, hlt, rfl, ?_, _, rfl⟩
      rw [ts, List.filter_append, List.map_append, List.filter_cons_of_pos hf]
      rfl
    | false =>
      rw [if_neg Bool.false_ne_true]
      refine ⟨as.length - (i + 1), by omega, rfl, hlt, rfl, ?_, _, rfl⟩
      rw [ts, List.filter_append, List.filter_cons_of_neg (by rw [hf]; exact Bool.false_ne_true)]
      simp
  · have ei : i = as.length := by omega
    subst ei
    refine .inl ⟨S.stop _ (by rw [List.length_map]; exact Nat.le_refl _), by omega, fun D hD => ?_⟩
    rw [List.take_length]
    exact hq D hD
theorem comp_map {α : Type} {J : It} {H : Hp} {as : List α} {v : α → V} (e : α → V) {te : TE} {Q : VK} {rest : L2.St} (S : Src J H (as.map v)) (hz : as.length ≤ sizeLine)
    (he : ∀ a ∈ as, ∀ k : VK, k (e a) H → te (some (v a) :: rest) H k)
    (hq : ∀ D, H D = none → Q (.ref D) (upd H D (.lst (as.map e)))) : wComp J (gName 0) tYes te Q (none :: rest) H :=
  comp_pure (fun _ => true) e S hz (fun a _ k hk => hk) (fun a ha _ k hk => he a ha k hk) fun D hD => by
    have e1 : as.filter (fun _ => true) = as := by simp
    rw [e1]; exact hq D hD

/-! ### a cut between two statements: what holds there -/
section
variable {X : Cx} {st : Stmt} {t : TS}
def tMid (t : TS) : TS := fun D σ H => ∃ M : L2.St → Hp → Prop, t { D with nx := M } σ H ∧ ∀ σ' H', M σ' H' → D.nx σ' H'
theorem ps_mid (h : PS X st t) : PS X st (tMid t) := by
  intro pins s σ H D I hw
  obtain ⟨M, h1, h2⟩ := hw
  refine thn (h pins s σ H { D with nx := M } I h1) fun f s' q => ?_
  cases f with
  | next =>
    obtain ⟨σ', H', I', m⟩ := q
    exact ⟨σ', H', I', h2 _ _ m⟩
  | ret v => exact q
  | brk => exact q
  | cont => exact q
end

/-! ### lengths -/
theorem szl : (sizeLine : Nat) = 16777216 := sizeLine_eq
theorem few {n : Nat} (h : n ≤ 100000) : n ≤ sizeLine := by rw [szl]; omega
theorem fewer {n : Nat} (h : n ≤ 100000) : n < sizeLine := by rw [szl]; omega
end L3

set_option Elab.async false
set_option linter.all false
set_option maxRecDepth 100000
set_option maxHeartbeats 4000000
/-! THE MATHEMATICS of words. -/
namespace Vm
open PySem L2 L3
/-- a letter a to z -/
def Al (c : Nat) : Prop := 97 ≤ c ∧ c ≤ 122
structure Good (z : Str) : Prop where
  lo : 1 ≤ z.length
  hi : z.length ≤ 12
  al : ∀ c ∈ z.cps.toList, Al c
def letters : Str := "abcdefghijklmnopqrstuvwxyz"
theorem letters_cps : letters.cps.toList = (List.range 26).map (97 + ·) := by decide +kernel
theorem mem_letters {c : Nat} : c ∈ letters.cps.toList ↔ Al c := by
  rw [letters_cps, List.mem_map]
  unfold Al
  constructor
  · rintro ⟨i, hi, rfl⟩
    have := List.mem_range.mp hi
    omega
  · intro h
    exact ⟨c - 97, List.mem_range.mpr (by omega), by omega⟩
theorem clen (z : Str) : z.cps.toList.length = z.length := by simp [Str.length]
theorem Good.small {z : Str} (g : Good z) : z.length ≤ sizeLine := few (by have := g.hi; omega)
def onlyB (z y : Str) : Bool := z.cps.toList.all fun c => decide (c ∈ y.cps.toList)
def wordB (z : Str) : Bool := decide (1 ≤ z.length ∧ z.length ≤ 12) && onlyB z letters
theorem wordB_iff {z : Str} : wordB z = true ↔ Good z := by
  unfold wordB onlyB
  rw [Bool.and_eq_true, decide_eq_true_eq, List.all_eq_true]
  constructor
  · rintro ⟨⟨h1, h2⟩, h3⟩
    exact ⟨h1, h2, fun c hc => mem_letters.mp (of_decide_eq_true (h3 c hc))⟩
  · rintro ⟨h1, h2, h3⟩
    exact ⟨⟨h1, h2⟩, fun c hc => decide_eq_true (mem_letters.mpr (h3 c hc))⟩
/-! ### cuts of texts -/
theorem mk_list (l : List Nat) : (⟨l.toArray⟩ : Str).cps.toList = l := by simp
theorem mk_len (l : List Nat) : (⟨l.toArray⟩ : Str).length = l.length := by
  show l.toArray.size = _
  rw [List.size_toArray]
theorem take_min {α : Type} (l : List α) (n : Nat) : l.take (min n l.length) = l.take n := by
  by_cases h : n ≤ l.length
  · rw [Nat.min_eq_left h]
  · rw [Nat.min_eq_right (by omega), List.take_of_length_le (Nat.le_refl l.length), List.take_of_length_le (l := l) (i := n) (by omega)]
theorem drop_min {α : Type} (l : List α) (n : Nat) : l.drop (min n l.length) = l.drop n := by
  by_cases h : n ≤ l.length
  · rw [Nat.min_eq_left h]
  · rw [Nat.min_eq_right (by omega), List.drop_of_length_le (Nat.le_refl l.length), List.drop_of_length_le (l := l) (i := n) (by omega)]
theorem cutL_take (l : List Nat) (n : Nat) : cutL l none (some (n : Int)) = l.take n := by
  unfold cutL
  rw [HT.sIx_none, HT.sIx_nat, List.drop_zero, Nat.sub_zero, take_min]
theorem cutL_drop (l : List Nat) (n : Nat) : cutL l (some (n : Int)) none = l.drop n := by
  unfold cutL
  rw [HT.sIx_none, HT.sIx_nat, drop_min]
  exact List.take_of_length_le (by rw [List.length_drop]; omega)
/-! ### words that are made -/
theorem al_mod (n : Nat) (h : n < 26) : Al (97 + n) := by unfold Al; omega
theorem app_list (a b : Str) : (a ++ b).cps.toList = a.cps.toList ++ b.cps.toList := by
  show (a.cps ++ b.cps).toList = _
  simp
theorem app_len (a b : Str) : (a ++ b).length = a.length + b.length := by
  show (a.cps ++ b.cps).size = _
  rw [Array.size_append]; rfl
end Vm

set_option Elab.async false
set_option linter.all false
set_option maxRecDepth 100000
set_option maxHeartbeats 4000000
/-! text.split(sep); a text as words with a sign between. -/
namespace L3
open PySem PySem.Spec PyProof.Rows L2
open Builtin Builtin.Str
section
variable {X : Cx}
theorem vals_values : ∀ l : List (Str × Tok), Vals ((l.map (·.1)).map V.str) (strValues l)
  | [] => .nil
  | (z, t) :: r => .cons ⟨t, rfl⟩ (vals_values r)
end
end L3

namespace Vm
open PySem L2 L3
/-! ### words with a sign c between, as lists -/
end Vm

set_option Elab.async false
set_option linter.all false
set_option maxRecDepth 100000
set_option maxHeartbeats 4000000
/-! AN EXCEPTION IN FLIGHT: what the frames that it passes do to the heap. -/
namespace L3
open PySem PySem.Spec PyProof.Rows L2

section
variable {M : Model} {A : Around} {E : Value → Shared → Prop} {s : Shared}
end

section
variable {M : Model} {A : Around} {E : Value → Shared → Prop}
end

/-! ### the heap behind an exception -/
section
variable {P : Program} {w : World} {H H' : Hp} {h h1 h2 : Heap} {fs fs' S ex : List Addr}
end

section
variable {X : Cx} {pins : List (Addr × Obj)} {σ : L2.St} {H : Hp} {s : Shared} {S : List Addr}
/-- an object that stands there is tracked -/
theorem inv_track {a : Addr} {o : HO} (I : Inv X pins σ H s) (h0 : X.s₀.heap.get? a = none) (hl : a ≠ X.env.locals) (hc : ∀ x c, X.env.cells.lookup x = some c → c ≠ a) (hp : ∀ p ∈ X.pn ++ pins, p.1 ≠ a) (hn : H a = none)
    (ok : ObjOk X.prog X.w (upd H a o) s.heap a o) : Inv X pins σ (upd H a o) s where
  ok := I.ok
  os := I.os
  bare := I.bare
  base := ⟨I.base.keep, I.base.slot, fun b ob e n hx => by rw [upd_ne fun z => by rw [z, h0] at e; cases e]; exact I.base.free b ob e n hx, I.base.there,
    fun b xs e => by have q := I.base.tups b xs e; rw [upd_ne (ne_of_none q hn)]; exact q, fun b ob u e => by have q := I.base.frzs b ob u e; rw [upd_ne (ne_of_none q hn)]; exact q,
    fun b ps e => by obtain ⟨m, q⟩ := I.base.tbls b ps e; exact ⟨m, by rw [upd_ne (ne_of_none q hn)]; exact q⟩⟩
  loc := I.loc
  cell := I.cell
  free := by rw [upd_ne (Ne.symm hl)]; exact I.free
  freeC := fun x c e => by rw [upd_ne (hc x c e)]; exact I.freeC x c e
  pin := fun p hp' => by
    obtain ⟨e, n, r⟩ := I.pin p hp'
    exact ⟨e, by rw [upd_ne (hp p hp')]; exact n, r⟩
  hok := fun b u e => by
    by_cases hb : b = a
    · subst hb; rw [upd_same] at e; cases e; exact ok
    · rw [upd_ne hb] at e
      exact (I.hok b u e).stay (fun _ _ _ q => q) (fun c q => by rw [upd_ne (ne_of_none q hn)]; exact q) fun c xs q => by rw [upd_ne (ne_of_none q hn)]; exact q
  len := I.len
end

/-! ### how an exception lies behind a call -/
section
variable {P : Program} {w : World} {K : PySem.W.Frag} {mg : Str → Option Value} {base : Heap} {N : List Str} {qual : Str} {scope : Scope} {f : Addr} {cd : Value} {A : Around} {outer : List Env} {s0 : Shared} {H0 : Hp} {E : XK}
end

/-! ### raise C(text) -/
section
variable {X : Cx} {x : Str} {C : Addr} {a : Expr} {ta : TE} {E : XK} {np cpos pos : Pos}
end

/-! ### try: x = f(..) except C as n: .. -/
section
variable {X : Cx} {pins : List (Addr × Obj)} {σ : L2.St} {H : Hp} {s : Shared} {ea : Addr}
end
section
variable {X : Cx} {CX : CXT} {k : Nat} {f : Addr} {fd : FuncData} {ps : List Str} {sp : Sp} {fx x n c : Str} {e : Expr} {es : List Expr} {ta : TA} {p pos : Pos}
end
end L3

set_option Elab.async false
set_option linter.all false
set_option maxRecDepth 100000
set_option maxHeartbeats 4000000
/-! == of lists and tuples; isinstance of an exception; a loop over a text. -/
namespace L3
open PySem PySem.Spec PyProof.Rows L2

/-! ### a loop over a text -/
/-! ### == of sequences -/
def EqQ (K : PySem.W.Frag) (H : Hp) : Nat → V → V → Bool → Prop
  | 0, x, y, b => flatV x = true ∧ flatV y = true ∧ b = eqV x y
  | n + 1, x, y, b => EqQ K H n x y b ∨ ∃ (p r : Addr) (xs ys : List V) (e : Nat → Bool), x = .ref p ∧ y = .ref r ∧ ((SqL K H p xs ∧ SqL K H r ys) ∨ (SqT K H p xs ∧ SqT K H r ys)) ∧
      (∀ (i : Nat) (x y : V), xs[i]? = some x → ys[i]? = some y → EqQ K H n x y (e i)) ∧ b = (decide (xs.length = ys.length) && (List.range xs.length).all e)
def EqS (K : PySem.W.Frag) (H : Hp) (n : Nat) (x y : V) (b : Bool) : Prop := ∃ (p r : Addr) (xs ys : List V) (e : Nat → Bool), x = .ref p ∧ y = .ref r ∧ ((SqL K H p xs ∧ SqL K H r ys) ∨ (SqT K H p xs ∧ SqT K H r ys)) ∧
      (∀ (i : Nat) (x y : V), xs[i]? = some x → ys[i]? = some y → EqQ K H n x y (e i)) ∧ b = (decide (xs.length = ys.length) && (List.range xs.length).all e)
theorem EqQ.flat {K : PySem.W.Frag} {H : Hp} {x y : V} (hx : flatV x = true) (hy : flatV y = true) : ∀ n, EqQ K H n x y (eqV x y)
  | 0 => ⟨hx, hy, rfl⟩
  | n + 1 => .inl (EqQ.flat hx hy n)
theorem eqV_self {x : V} (h : flatV x = true) : eqV x x = true := by
  cases x with
  | non => rfl
  | bl b => show (b == b) = true; simp
  | int b => show (b == b) = true; simp
  | str b => show (b == b) = true; simp
  | _ => exact absurd (show false = true from h) Bool.false_ne_true
section
variable {X : Cx} {pins : List (Addr × Obj)} {σ : L2.St} {H : Hp} {s : Shared}
theorem eqq_self (I : Inv X pins σ H s) : ∀ {n : Nat} {x : V} {b : Bool}, EqQ X.K H n x x b → b = true
  | 0, x, b, h => by
    obtain ⟨h1, _, e⟩ := h
    rw [e]; exact eqV_self h1
  | n + 1, x, b, h => by
    rcases h with h | ⟨p, r, xs, ys, e, e1, e2, hq, he, rfl⟩
    · exact eqq_self I h
    · rw [e1] at e2; cases e2
      have exy : xs = ys := by
        rcases hq with ⟨a, c⟩ | ⟨a, c⟩
        · exact I.list_inj a c
        · exact I.tuple_inj a c
      subst exy
      rw [decide_eq_true rfl, Bool.true_and, List.all_eq_true]
      intro i hi
      have hlt := List.mem_range.mp hi
      exact eqq_self I (he i xs[i] xs[i] (List.getElem?_eq_getElem hlt) (List.getElem?_eq_getElem hlt))
theorem vals_at {xs : List V} {us : List Value} (r : Vals xs us) {j : Nat} (h : j < us.length) : ∃ x, xs[j]? = some x ∧ RelV x us[j] := by
  have hx : j < xs.length := by rw [r.length]; exact h
  obtain ⟨u, e, q⟩ := r.get (List.getElem?_eq_getElem hx)
  rw [List.getElem?_eq_getElem h] at e
  cases e
  exact ⟨_, List.getElem?_eq_getElem hx, q⟩
theorem rng_min {a b : Nat} {e : Nat → Bool} : ((List.range (min a b)).all e && a == b) = (decide (a = b) && (List.range a).all e) := by
  by_cases h : a = b
  · subst h; simp
  · simp [h]
/-- the comparison itself, once the items' are known -/
theorem eqs_rc {n : Nat} {A : Around} (I : Inv X pins σ H s) (hu : A.units + 1 < cLine) (ih : ∀ (x y : V) (b : Bool) (u v : Value), RelV x u → RelV y v → EqQ X.K H n x y b → SeqAt.EqAt A.in1 s u v b)
    {p r : Addr} {xs ys : List V} {e : Nat → Bool} (hq : (SqL X.K H p xs ∧ SqL X.K H r ys) ∨ (SqT X.K H p xs ∧ SqT X.K H r ys)) (he : ∀ (i : Nat) (x y : V), xs[i]? = some x → ys[i]? = some y → EqQ X.K H n x y (e i)) :
    SeqAt.RcAt A s (.ref p) (.ref r) (decide (xs.length = ys.length) && (List.range xs.length).all e) := by
  have hu' : A.units < cLine := by omega
  rcases hq with ⟨a, c⟩ | ⟨a, c⟩
  · obtain ⟨is, r1, p1, z1⟩ := I.list a
    obtain ⟨js, r2, p2, z2⟩ := I.list c
    have l1 := r1.length
    have l2 := r2.length
    by_cases hl : xs.length = ys.length
    · rw [decide_eq_true hl, Bool.true_and]
      have q := SeqAt.RcAt.lists (e := e) p1.isList p2.isList (by rw [List.size_toArray, List.size_toArray]; omega) hu' fun j h1 h2 => by
        rw [List.size_toArray] at h1 h2
        obtain ⟨x, ex, rx⟩ := vals_at r1 h1
        obtain ⟨y, ey, ry⟩ := vals_at r2 h2
        rw [List.getElem_toArray, List.getElem_toArray]
        exact ih x y _ _ _ rx ry (he j x y ex ey)
      rw [List.size_toArray, ← l1] at q
      exact q
    · rw [decide_eq_false hl, Bool.false_and]
      exact SeqAt.RcAt.lists_lengths p1.isList p2.isList (by rw [List.size_toArray, List.size_toArray]; simp; omega) hu'
  · obtain ⟨is, r1, p1, z1⟩ := I.tuple a
    obtain ⟨js, r2, p2, z2⟩ := I.tuple c
    have l1 := r1.length
    have l2 := r2.length
    have q := SeqAt.RcAt.tuples (e := e) p1 p2 hu' fun j h1 h2 => by
      rw [List.size_toArray] at h1 h2
      obtain ⟨x, ex, rx⟩ := vals_at r1 h1
      obtain ⟨y, ey, ry⟩ := vals_at r2 h2
      rw [List.getElem_toArray, List.getElem_toArray]
      exact ih x y _ _ _ rx ry (he j x y ex ey)
    rw [List.size_toArray, List.size_toArray, ← l1, ← l2, rng_min] at q
    exact q
theorem eqs_ne {n : Nat} {A : Around} (I : Inv X pins σ H s) (hu : A.units + 1 < cLine) (ih : ∀ (x y : V) (b : Bool) (u v : Value), RelV x u → RelV y v → EqQ X.K H n x y b → SeqAt.EqAt A.in1 s u v b)
    {p r : Addr} {xs ys : List V} {e : Nat → Bool} (hq : (SqL X.K H p xs ∧ SqL X.K H r ys) ∨ (SqT X.K H p xs ∧ SqT X.K H r ys)) (he : ∀ (i : Nat) (x y : V), xs[i]? = some x → ys[i]? = some y → EqQ X.K H n x y (e i)) :
    SeqAt.RcNeAt A s (.ref p) (.ref r) (!(decide (xs.length = ys.length) && (List.range xs.length).all e)) := by
  have hu' : A.units < cLine := by omega
  rcases hq with ⟨a, c⟩ | ⟨a, c⟩
  · obtain ⟨is, r1, p1, z1⟩ := I.list a
    obtain ⟨js, r2, p2, z2⟩ := I.list c
    have l1 := r1.length
    have l2 := r2.length
    by_cases hl : xs.length = ys.length
    · rw [decide_eq_true hl, Bool.true_and]
      have q := SeqAt.RcNeAt.lists (e := e) p1.isList p2.isList (by rw [List.size_toArray, List.size_toArray]; omega) hu' fun j h1 h2 => by
        rw [List.size_toArray] at h1 h2
        obtain ⟨x, ex, rx⟩ := vals_at r1 h1
        obtain ⟨y, ey, ry⟩ := vals_at r2 h2
        rw [List.getElem_toArray, List.getElem_toArray]
        exact ih x y _ _ _ rx ry (he j x y ex ey)
      rw [List.size_toArray, ← l1] at q
      exact q
    · rw [decide_eq_false hl, Bool.false_and]
      exact SeqAt.RcNeAt.lists_lengths p1.isList p2.isList (by rw [List.size_toArray, List.size_toArray]; simp; omega) hu'
  · obtain ⟨is, r1, p1, z1⟩ := I.tuple a
    obtain ⟨js, r2, p2, z2⟩ := I.tuple c
    have l1 := r1.length
    have l2 := r2.length
    have q := SeqAt.RcNeAt.tuples (e := e) p1 p2 hu' fun j h1 h2 => by
      rw [List.size_toArray] at h1 h2
      obtain ⟨x, ex, rx⟩ := vals_at r1 h1
      obtain ⟨y, ey, ry⟩ := vals_at r2 h2
      rw [List.getElem_toArray, List.getElem_toArray]
      exact ih x y _ _ _ rx ry (he j x y ex ey)
    rw [List.size_toArray, List.size_toArray, ← l1, ← l2, rng_min] at q
    exact q
theorem eqq_at (I : Inv X pins σ H s) : ∀ {n : Nat} {A : Around} {x y : V} {b : Bool} {u v : Value}, A.units + n < cLine → RelV x u → RelV y v → EqQ X.K H n x y b → SeqAt.EqAt A s u v b
  | 0, A, x, y, b, u, v, hu, rx, ry, h => by
    obtain ⟨h1, h2, e⟩ := h
    rw [e]; exact eqAt_V rx ry h1 h2
  | n + 1, A, x, y, b, u, v, hu, rx, ry, h => by
    rcases h with h | ⟨p, r, xs, ys, e, rfl, rfl, hq, he, hb⟩
    · exact eqq_at I (by omega) rx ry h
    · cases rx; cases ry
      by_cases hp : p = r
      · subst hp
        have := eqq_self I (n := n + 1) (.inr ⟨p, p, xs, ys, e, rfl, rfl, hq, he, hb⟩)
        rw [this]; exact SeqAt.EqAt.same _
      · rw [hb]
        exact SeqAt.EqAt.of_refs hp (eqs_rc I (by omega) (fun x y b u v rx ry q => eqq_at I (A := A.in1) (by show A.units + 1 + n < cLine; omega) rx ry q) hq he)
theorem op_neS (hu : X.A.units + 64 < cLine) : OpR X (compareOp .NotEq) (fun x y H Q => ∃ n b, n ≤ 20 ∧ EqS X.K H n x y b ∧ Q (.bl (!b)) H) := by
  intro pins s σ H x y v u Q I rx ry h
  obtain ⟨n, b, hn, ⟨p, r, xs, ys, e, rfl, rfl, hq, he, rfl⟩, q⟩ := h
  cases rx; cases ry
  exact eqs_ne I (by omega) (fun x y b u v rx ry q => eqq_at I (A := X.A.in1) (by show X.A.units + 1 + n < cLine; omega) rx ry q) hq he _ _ _ _ ⟨.bl _, H, I, rfl, q⟩
end

end L3
namespace L3
open PySem PySem.Spec PyProof.Rows L2 PySem.W
/-! ### the class of an exception, asked by its name -/
section
variable {M : Model} {A : Around} {E : Value → Shared → Prop} {s : Shared}
end
section
variable {prog : Program} {w : World} {A : Around} {E : Value → Shared → Prop} {s : Shared} {K : PySem.W.Frag} {x D : Addr} {ox : Obj}
end
end L3
namespace L3
open PySem PySem.Spec PyProof.Rows L2
/-! ### isinstance of an exception -/
open PySem.W in
section
variable {X : Cx}
end
/-! ### rules for a context that is not known (a block's, a handler's): the module's part is -/
section
variable {X : Cx} {K : PySem.W.Frag}
theorem ix_tupK (hK : X.K = K) : IxR X (rIxT K) := by subst hK; exact ix_tup
end
end L3

set_option Elab.async false
set_option linter.all false
set_option maxRecDepth 100000
set_option maxHeartbeats 4000000
/-! THE MATHEMATICS of texts of words, as they are cut. -/
namespace Vm
open PySem PySem.Spec PyProof.Rows L2 L3
def mkS (l : List Nat) : Str := ⟨l.toArray⟩
theorem mkS_list (l : List Nat) : (mkS l).cps.toList = l := mk_list l
end Vm

set_option Elab.async false
set_option linter.all false
set_option maxRecDepth 100000
set_option maxHeartbeats 4000000
/-! NUMBERS as texts. -/
namespace L3
open PySem PySem.Spec PyProof.Rows L2
section
variable {X : Cx}
theorem call_int_text : CallR X (.type "int") (fun xs H Q => ∃ (z : Str) (n : Int), xs = [.str z] ∧ PySem.intText? z = some n ∧ z.length ≤ 640 ∧ Q (.int n) H) := by
  intro pins s σ H xs us Q I r h
  obtain ⟨z, n, rfl, hn, hl, q⟩ := h
  obtain ⟨u, rfl, t, rfl⟩ := vals1 r
  exact PySem.W.KIN.call_text hn hl ⟨.int n, H, I.tok _, ⟨_, rfl⟩, q⟩
end
end L3
namespace Vm
open PySem PySem.Spec PyProof.Rows L2 L3 PySem.NumText
def figures : Str := "0123456789"
theorem figures_cps : figures.cps.toList = (List.range 10).map (48 + ·) := by decide +kernel
theorem mem_figures {c : Nat} : c ∈ figures.cps.toList ↔ 48 ≤ c ∧ c ≤ 57 := by
  rw [figures_cps, List.mem_map]
  constructor
  · rintro ⟨i, hi, rfl⟩
    have := List.mem_range.mp hi
    omega
  · intro h
    exact ⟨c - 48, List.mem_range.mpr (by omega), by omega⟩
/-! ### what figures are worth -/
theorem fold_low : ∀ (l : List Nat) (acc : Nat), acc * 10 ^ l.length ≤ l.foldl (fun acc c => acc * 10 + (c - 48)) acc
  | [], acc => by simp
  | c :: r, acc => by
    rw [List.foldl_cons, List.length_cons]
    refine Nat.le_trans ?_ (fold_low r _)
    rw [Nat.pow_succ, Nat.mul_comm (10 ^ r.length) 10, ← Nat.mul_assoc]
    exact Nat.mul_le_mul_right _ (by omega)
theorem fold_high : ∀ (l : List Nat) (acc : Nat), (∀ c ∈ l, 48 ≤ c ∧ c ≤ 57) → l.foldl (fun acc c => acc * 10 + (c - 48)) acc < (acc + 1) * 10 ^ l.length
  | [], acc, _ => by simp
  | c :: r, acc, h => by
    rw [List.foldl_cons, List.length_cons]
    refine Nat.lt_of_lt_of_le (fold_high r _ fun d hd => h d (List.mem_cons_of_mem _ hd)) ?_
    rw [Nat.pow_succ, Nat.mul_comm (10 ^ r.length) 10, ← Nat.mul_assoc]
    have := h c List.mem_cons_self
    exact Nat.mul_le_mul_right _ (by omega)
theorem val_low {c : Nat} {r : List Nat} (h : 48 < c) : 10 ^ r.length ≤ digitsVal (c :: r) := by
  unfold digitsVal
  rw [List.foldl_cons]
  refine Nat.le_trans ?_ (fold_low r _)
  calc 10 ^ r.length = 1 * 10 ^ r.length := (Nat.one_mul _).symm
    _ ≤ _ := Nat.mul_le_mul_right _ (by omega)
theorem val_high {l : List Nat} (h : ∀ c ∈ l, 48 ≤ c ∧ c ≤ 57) : digitsVal l < 10 ^ l.length := by
  have := fold_high l 0 h
  unfold digitsVal
  omega
/-! ### the text of a number -/
def numS (n : Int) : Str := Str.ofString (toString n)
theorem numS_list (m : Nat) : (numS (m : Int)).cps.toList = (Nat.toDigits 10 m).map Char.toNat := PySem.W.KIN.signs_num m
theorem numS_digits (m : Nat) : ∀ c ∈ (numS (m : Int)).cps.toList, 48 ≤ c ∧ c ≤ 57 := by
  intro c hc
  rw [numS_list] at hc
  obtain ⟨ch, hch, e⟩ := List.mem_map.mp hc
  rw [← e]
  exact digit_range (Nat.isDigit_of_mem_toDigits (by decide) (by decide) hch)
theorem numS_lt (m : Nat) : m < 10 ^ (numS (m : Int)).length := by
  have h := val_high (numS_digits m)
  rw [numS_list, PySem.W.KIN.val_back, ← numS_list, clen] at h
  exact h
theorem digits_le : ∀ (k m : Nat), m < 10 ^ (k + 1) → (Nat.toDigits 10 m).length ≤ k + 1
  | 0, m, h => by
    rw [Nat.toDigits_of_lt_base (by omega)]
    exact Nat.le_refl _
  | k + 1, m, h => by
    by_cases h9 : m < 10
    · rw [Nat.toDigits_of_lt_base h9]
      exact Nat.succ_le_succ (Nat.zero_le _)
    · have hm : m % 10 < 10 := Nat.mod_lt m (by decide)
      have t : Nat.toDigits 10 (m / 10) ++ Nat.toDigits 10 (m % 10) = Nat.toDigits 10 (10 * (m / 10) + m % 10) := Nat.toDigits_append_toDigits (by decide) (by omega) hm
      rw [Nat.div_add_mod] at t
      rw [← t, List.length_append, Nat.toDigits_of_lt_base hm]
      have h2 : m / 10 < 10 ^ (k + 1) := by
        rw [Nat.pow_succ] at h
        exact Nat.div_lt_of_lt_mul (by omega)
      have := digits_le k (m / 10) h2
      show _ + 1 ≤ _
      omega
theorem numS_len {n : Int} (h0 : 0 ≤ n) (h1 : n < 10 ^ 40) : (numS n).length ≤ 40 := by
  obtain ⟨m, rfl⟩ := Int.eq_ofNat_of_zero_le h0
  rw [← clen, numS_list, List.length_map]
  exact digits_le 39 m (by exact_mod_cast h1)
theorem numS_pos (n : Int) (h0 : 0 ≤ n) : 1 ≤ (numS n).length := by
  obtain ⟨m, rfl⟩ := Int.eq_ofNat_of_zero_le h0
  rw [← clen, numS_list, List.length_map]
  exact toDigits_len_ge 10 m
theorem log_ok {n : Int} (h0 : 0 ≤ n) (h1 : n < 10 ^ 40) : n.natAbs.log2 < 1920 := by
  obtain ⟨m, rfl⟩ := Int.eq_ofNat_of_zero_le h0
  rw [Int.natAbs_natCast]
  by_cases hm : m = 0
  · subst hm; decide
  · rw [Nat.log2_lt hm]
    refine Nat.lt_of_lt_of_le (by exact_mod_cast h1 : m < 10 ^ 40) ?_
    refine Nat.le_trans (show 10 ^ 40 ≤ 2 ^ 160 by decide) (Nat.pow_le_pow_right (by decide) (by decide))
/-! ### texts that write a number -/
def writesB (z : Str) : Bool := if z = Str.ofString "" then false else if onlyB z figures = true then decide (z = Str.ofString "0") || !decide (z.cps.toList[0]? = some 48) else false
def pnum (z : Str) (most : Int) : Option Int := if writesB z = true then (if ((digitsVal z.cps.toList : Nat) : Int) ≤ most then some ((digitsVal z.cps.toList : Nat) : Int) else none) else none
theorem only_digits {z : Str} (h : onlyB z figures = true) : ∀ c ∈ z.cps.toList, 48 ≤ c ∧ c ≤ 57 := by
  unfold onlyB at h
  rw [List.all_eq_true] at h
  exact fun c hc => mem_figures.mp (of_decide_eq_true (h c hc))
theorem ne_nil {z : Str} (h : z ≠ Str.ofString "") : z.cps.toList ≠ [] := fun e => h (by
  have e2 : (Str.ofString "").cps.toList = [] := by decide +kernel
  rw [← str_mk z, ← str_mk (Str.ofString ""), e, e2])
theorem digits_read {z : Str} (h : onlyB z figures = true) (hne : z ≠ Str.ofString "") (hl : z.length ≤ 640) : PySem.intText? z = some ((digitsVal z.cps.toList : Nat) : Int) :=
  intText_digits (only_digits h) (ne_nil hne) (by omega)
theorem writes_low {z : Str} (h : writesB z = true) (h2 : 2 ≤ z.length) : 10 ^ (z.length - 1) ≤ digitsVal z.cps.toList := by
  unfold writesB at h
  by_cases h0 : z = Str.ofString ""
  · rw [if_pos h0] at h; cases h
  rw [if_neg h0] at h
  by_cases h1 : onlyB z figures = true
  · rw [if_pos h1] at h
    have hd := only_digits h1
    have hz := clen z
    rcases Bool.or_eq_true_iff.mp h with h | h
    · have e := of_decide_eq_true h
      rw [e] at h2
      exact absurd h2 (by decide +kernel)
    · cases hl : z.cps.toList with
      | nil => exact absurd hl (ne_nil h0)
      | cons c r =>
        rw [hl] at h hd hz
        have hc : c ≠ 48 := fun e => by rw [e] at h; simp at h
        have := hd c List.mem_cons_self
        rw [← hz, List.length_cons, Nat.add_sub_cancel]
        exact val_low (by omega)
  · rw [if_neg h1] at h; cases h
/-- a text that is longer than a greatest number's is none, or greater -/
theorem pnum_long {z : Str} {most : Int} {k : Nat} (hk : most < 10 ^ k) (h1 : 1 ≤ k) (hl : k < z.length) : pnum z most = none := by
  unfold pnum
  by_cases h : writesB z = true
  · rw [if_pos h, if_neg ?_]
    have := writes_low h (by omega)
    have h3 : 10 ^ k ≤ 10 ^ (z.length - 1) := Nat.pow_le_pow_right (by decide) (by omega)
    have h4 : (10 : Int) ^ k ≤ ((digitsVal z.cps.toList : Nat) : Int) := by exact_mod_cast Nat.le_trans h3 this
    omega
  · rw [if_neg h]
theorem most_lt {most : Int} (h0 : 0 ≤ most) : most < 10 ^ (numS most).length := by
  obtain ⟨m, rfl⟩ := Int.eq_ofNat_of_zero_le h0
  exact_mod_cast numS_lt m
def optV : Option Int → V
  | none => .non
  | some i => .int i
end Vm

set_option Elab.async false
set_option linter.all false
set_option maxRecDepth 100000
set_option maxHeartbeats 4000000
/-! TUPLES cut and laid behind lists; THE MATHEMATICS of steps. -/
namespace HT
open PySem PySem.Spec PyProof.Rows
section
variable {prog : Program} {w : World} {A : Around} {E : Value → Shared → Prop} {s : Shared}
end
end HT
namespace L3
open PySem PySem.Spec PyProof.Rows L2
section
variable {X : Cx}
end
end L3
namespace Vm
open PySem PySem.Spec PyProof.Rows L2 L3
theorem iteK {c A B : Prop} [Decidable c] (h : ¬ c) (hb : B) : if decide c = true then A else B := by rw [decide_eq_false h]; exact hb
theorem iteY {c A B : Prop} [Decidable c] (h : c) (ha : A) : if decide c = true then A else B := by rw [decide_eq_true h]; exact ha
end Vm

set_option Elab.async false
set_option linter.all false
set_option maxRecDepth 100000
set_option maxHeartbeats 4000000
/-! AN EXCEPTION THAT LEAVES A LOOP: what is kept of it while it passes. -/
namespace L3
open PySem PySem.Spec PyProof.Rows L2
section
variable {X : Cx} {pins : List (Addr × Obj)} {σ : L2.St} {H H' : Hp} {s : Shared} {b : Addr}
end
section
variable {X : Cx} {E : XK} {e : Value} {s : Shared}
end
section
variable {P : Program} {w : World} {K : PySem.W.Frag} {mg : Str → Option Value} {base : Heap} {N : List Str} {qual : Str} {scope : Scope} {f : Addr} {cd : Value} {A : Around} {outer : List Env} {s0 : Shared} {H0 : Hp} {E : XK}
end
end L3

set_option Elab.async false
set_option linter.all false
set_option maxRecDepth 100000
set_option maxHeartbeats 4000000
/-! try .. except C: (without a name); THE MATHEMATICS of rows of steps. -/
namespace L3
open PySem PySem.Spec PyProof.Rows L2
section
variable {X : Cx} {k : Nat} {f : Addr} {fd : FuncData} {ps : List Str} {sp : Sp} {fx x c : Str} {e : Expr} {es : List Expr} {ta : TA} {p pos : Pos}
end
end L3
namespace Vm
open PySem PySem.Spec PyProof.Rows L2 L3
/-! ### rows of steps -/
theorem sameT {K : PySem.W.Frag} {H H' : Hp} {a : Addr} {xs : List V} (S : Same H H') (h : SqT K H a xs) : SqT K H' a xs := by
  rcases h with (h | ⟨o, h⟩) | h
  · exact .inl (.inl (S _ _ h))
  · exact .inl (.inr ⟨o, S _ _ h⟩)
  · exact .inr h
end Vm

set_option Elab.async false
set_option linter.all false
set_option maxRecDepth 100000
set_option maxHeartbeats 4000000
/-! zip of two tuples, walked; sum of ints; a text's place in a list; a dict of the module. -/
namespace L3
open PySem PySem.Spec PyProof.Rows L2
section
variable {prog : Program} {w : World}
section
variable {A : Around} {E : Value → Shared → Prop} {s : Shared} {z TI TO i1 i2 t1 t2 : Addr} {xs ys : Array Value} {S1 S2 : Nat → Heap → Prop} {k : Nat}
end
end
end L3
namespace L3
open PySem PySem.Spec PyProof.Rows L2
section
variable {X : Cx} {pins : List (Addr × Obj)} {σ : L2.St} {H : Hp} {s : Shared} {h' : Heap}
/-- untracked records of ours have turned -/
theorem turnedL {t' : Nat} {L : List Addr} (I : Inv X pins σ H s) (k : ∀ b o, b ∉ L → s.heap.get? b = some o → h'.get? b = some o) (hf : ∀ b ∈ L, FpOk X pins H b) : Inv X pins σ H { s with heap := h', toks := t' } := by
  have nit : ∀ b u, H b = some u → b ∉ L := fun b u e z => by rw [(hf b z).1] at e; cases e
  have nl : X.env.locals ∉ L := fun z => (hf _ z).2.1 rfl
  refine I.step (g' := s.gens) (d' := s.drawn) (ch := L) (fun b hb => ?_) (fun b o _ _ hc e _ => k b o hc e) (fun b o _ _ hc e _ => ⟨o.slots, k b o hc e⟩) (fun _ _ _ _ n => n)
    (fun b o hc e => ⟨o, k b o hc e⟩) (fun _ _ e => e) (fun _ _ _ e => e) (fun b ps e => ⟨#[], by rw [e]; simp⟩) (fun m hm => ?_) (fun b u e => ?_) I.bare
  · obtain ⟨f0, f1, f2, f3, f4, f5⟩ := hf b hb
    exact ⟨f3, f1, f4, f5⟩
  · obtain ⟨o, es, ep, ho, r⟩ := hm
    exact ⟨o, es, ep, k _ o nl ho, r⟩
  · refine (I.hok b u e).stay (fun c v hc q => k c v ?_ q) (fun _ q => q) fun _ _ q => q
    rcases hc with z | z
    · rw [z]; exact nit b u e
    · exact nit c _ z
end
section
variable {prog : Program} {w : World} {A : Around} {E : Value → Shared → Prop} {s : Shared} {z TI TO i1 i2 t1 t2 : Addr} {xs ys : Array Value} {k : Nat}
end
section
variable {X : Cx} {es : List Expr} {x1 : Nat} {tpos : Pos}
/-! ### sum, list.index, a dict of the module -/
end
end L3

set_option Elab.async false
set_option linter.all false
set_option maxRecDepth 100000
set_option maxHeartbeats 4000000
/-! ITEMS with a comma and a blank between; slips as texts. -/
namespace L3
open PySem PySem.Spec PyProof.Rows L2
section
variable {X : Cx}
theorem call_str_any : CallR X (.type "str") (fun xs H Q => (∃ i, xs = [.int i] ∧ i.natAbs.log2 < 1920 ∧ Q (.str (toString i)) H) ∨ ∃ z, xs = [.str z] ∧ Q (.str z) H) := by
  intro pins s σ H xs us Q I r h
  rcases h with ⟨i, rfl, hz, q⟩ | ⟨z, rfl, q⟩
  · obtain ⟨u, rfl, t, rfl⟩ := vals1 r
    exact PySem.P.str_of_int hz ⟨.str _, H, I.tok _, ⟨_, rfl⟩, q⟩
  · obtain ⟨u, rfl, t, rfl⟩ := vals1 r
    exact PySem.P.str_of_str ⟨.str _, H, I, ⟨_, rfl⟩, q⟩
end
def eqL : List V → List V → Bool
  | [], [] => true
  | x :: xs, y :: ys => eqV x y && eqL xs ys
  | _, _ => false
theorem eqL_eq : ∀ xs ys : List V, (decide (xs.length = ys.length) && (List.range xs.length).all fun i => eqV (xs.getD i .non) (ys.getD i .non)) = eqL xs ys
  | [], [] => rfl
  | [], y :: ys => by simp [eqL]
  | x :: xs, [] => by simp [eqL]
  | x :: xs, y :: ys => by
    have ih := eqL_eq xs ys
    rw [List.length_cons, List.length_cons, List.range_succ_eq_map, List.all_cons, List.all_map]
    have e : decide (xs.length + 1 = ys.length + 1) = decide (xs.length = ys.length) := decide_eq_decide.mpr (by omega)
    rw [e]
    show (decide (xs.length = ys.length) && (eqV x y && (List.range xs.length).all fun i => eqV (xs.getD i .non) (ys.getD i .non))) = (eqV x y && eqL xs ys)
    rw [← ih]
    exact Bool.and_left_comm _ _ _
theorem EqS.flats {K : PySem.W.Frag} {H : Hp} {p r : Addr} {xs ys : List V} (h : (SqL K H p xs ∧ SqL K H r ys) ∨ (SqT K H p xs ∧ SqT K H r ys)) (hx : xs.all flatV = true) (hy : ys.all flatV = true) : EqS K H 0 (.ref p) (.ref r) (eqL xs ys) := by
  refine ⟨p, r, xs, ys, fun i => eqV (xs.getD i .non) (ys.getD i .non), rfl, rfl, h, fun i x y ex ey => ?_, (eqL_eq xs ys).symm⟩
  refine ⟨List.all_eq_true.mp hx x (List.mem_of_getElem? ex), List.all_eq_true.mp hy y (List.mem_of_getElem? ey), ?_⟩
  show eqV (xs[i]?.getD .non) (ys[i]?.getD .non) = _
  rw [ex, ey]; rfl
end L3
namespace Vm
open PySem PySem.Spec PyProof.Rows L2 L3
section
open PySem.StrLaws Builtin Builtin.Str
/-! ### items with a comma and a blank between -/
theorem kind_pos (x : Str) : 1 ≤ Builtin.Str.strKind x := by
  unfold Builtin.Str.strKind
  split
  · exact Nat.le_refl _
  · split <;> decide
end
/-! ### steps as items -/
/-! ### items read -/
/-! ### what is written is read -/
/-! ### the steps' tuples, as they lie there -/
/-- a comprehension whose items lay new things -/
theorem comp_grow {α : Type} {J : It} {H : Hp} {as : List α} {v : α → V} {te : TE} {Q : VK} {rest : L2.St} (I : Nat → List V → Hp → Prop) (hs : ∀ i acc H', i ≤ as.length → I i acc H' → Src J H' (as.map v)) (hz : as.length ≤ sizeLine) (h0 : I 0 [] H)
    (hl : ∀ i acc H', I i acc H' → acc.length = i) (he : ∀ i a acc H', as[i]? = some a → I i acc H' → ∀ k : VK, (∀ x H2, I (i + 1) (acc ++ [x]) H2 → k x H2) → te (some (v a) :: rest) H' k)
    (hq : ∀ acc H', I as.length acc H' → ∀ D, H' D = none → Q (.ref D) (upd H' D (.lst acc))) : wComp J (gName 0) tYes te Q (none :: rest) H := by
  refine ⟨fun i m σ acc H' => I i acc H' ∧ i ≤ as.length ∧ m = as.length - i ∧ ∃ o, σ = o :: rest, ⟨as.length, h0, Nat.zero_le _, rfl, none, rfl⟩, ?_⟩
  rintro i m σ acc H' ⟨hI, hi, rfl, o, rfl⟩
  have hacc := hl i acc H' hI
  have S := hs i acc H' hi hI
  by_cases hlt : i < as.length
  · refine .inr ⟨S.go i (by rw [List.length_map]; exact hlt), fun x H1 y => ?_⟩
    obtain ⟨rfl, hx⟩ := S.yld i x H1 (by rw [List.length_map]; exact hlt) y
    rw [List.getElem?_map, List.getElem?_eq_getElem hlt] at hx
    have hx' : v as[i] = x := Option.some.inj hx
    subst hx'
    show te (some (v as[i]) :: rest) H1 _
    exact he i as[i] acc H1 (List.getElem?_eq_getElem hlt) hI _ fun x H2 h2 => ⟨by omega, as.length - (i + 1), by omega, h2, hlt, rfl, _, rfl⟩
  · have ei : i = as.length := by omega
    subst ei
    exact .inl ⟨S.stop _ (by rw [List.length_map]; exact Nat.le_refl _), by omega, hq acc H' hI⟩
end Vm

set_option Elab.async false
set_option linter.all false
set_option maxRecDepth 100000
set_option maxHeartbeats 4000000
/-! range with a step. -/
namespace L3
open PySem PySem.Spec PyProof.Rows L2
section
variable {X : Cx} {tg : Expr}
end
end L3

set_option Elab.async false
set_option linter.all false
set_option maxRecDepth 100000
set_option maxHeartbeats 4000000
/-! NUMBERS OF ANY SIZE multiplied; t[::-1] of a tuple. -/
namespace L3
open PySem PySem.Spec PyProof.Rows L2
section
variable {X : Cx}
theorem op_mulB : OpR X (binaryOp .Mult) (rI (fun i j => IntMulOk i j) fun i j => .int (i * j)) := opI fun _ _ _ _ _ _ _ hc q => mul_int q hc
end
end L3
namespace HT
open PySem PySem.Spec PyProof.Rows
section
variable {prog : Program} {w : World} {A : Around} {E : Value → Shared → Prop} {s : Shared}
end
end HT
namespace L3
open PySem PySem.Spec PyProof.Rows L2
section
variable {X : Cx} {e es : Expr} {te ts : TE} {pos p2 : Pos}
end
end L3
namespace L3
open PySem PySem.W PySem.Calls PySem.Spec PyProof.Rows L2
theorem bits_lay {ns : List Int} (h : WData.layableAll [WData.list (ns.map WData.int)] = true) : ∀ m ∈ ns, Builtin.Int.intBits m ≤ 1048576 := fun m hm => by
  have h1 : (WData.list (ns.map WData.int)).layable = true := layableW_arg h _ List.mem_cons_self
  have h2 : (WData.int m).layable = true := layableW_item h1 _ (List.mem_map.mpr ⟨m, hm, rfl⟩)
  exact PyData.bits_of_layable (layable0_of_all (lay0_int h2))
/-- a law's def that multiplies the script's numbers: their bits are bounded -/
theorem walk_ofB {l : PySem.W.OpenLaw} {n k : Nat} {q : Program} {loose : List Str} {XP : (Str → Option Value) → Heap → Prop} {YP : World → Heap → Prop} {d : DefRec} {K : Params → PySem.W.Frag} {CX : World → CXT} {sp : World → Sp} {x : Str}
    (hn : l.most = some n) (hn2 : n ≤ sizeLine) (hdf : d.params.defaults = []) (hr : Room k callerA) (hY : ∀ (w : World) (h : Heap), YP w h → (K w.params).In h)
    (F : ∀ (w : World) (mg : Str → Option Value) (fa : Addr) (h : Heap), (K w.params).In h → h.Ns mainGlobals mg → mg d.name = some (.ref fa) →
      ∃ fd : FuncData, (∀ (s : Shared) (u : Value), BindsTo s fd ⟨[u], []⟩ [(x, u)]) ∧ ∀ base : Heap, (K w.params).In base → base.Ns mainGlobals mg → FnOk l.prog w (K w.params) mg base (CX w) k fa fd [x] (sp w))
    (hsp : ∀ (w : World) (H : Hp) (a : Addr) (ns : List Int), ns.length ≤ n → (∀ m ∈ ns, Builtin.Int.intBits m ≤ 1048576) → Only H → SqL (K w.params) H a (ns.map V.int) → sp w [.ref a] H (fun v _ => v = .bl true) fun _ _ _ => False)
    (hCX : ∀ (w : World) (H : Hp) (s : Shared) (e : Value) (s' : Shared), CX w [] H s (fun _ _ _ => False) e s' → False) :
    PySem.W.WalkO q loose XP YP l.row.toRowW d [] (fun f vs => PySem.call f vs) := by
  intro w s₀ s₁ mg mb G Y fa o pm cd doc dV kV ho hd hcd hD hmg hg args vals as hpre hlay hrd hwl hlo
  obtain rfl : dV = .none := Dflts.none hD hdf
  obtain rfl : kV = .none := Dflts.noKw hD
  obtain ⟨a, vs, ns, rfl, rfl, hobj, hints, hlen⟩ := Att.script_of hn hpre hwl
  have KX := hY w _ Y
  obtain ⟨fd, hb, hF⟩ := F w mg fa _ KX G.T.g hmg
  refine enter_call (codeAny_mono (law_call KX G.T.g G.T.b G.T.builtins G.T.nolimit hg hobj hints (Nat.le_trans hlen hn2) hr hF hb (fun H hO hS => hsp w H a ns hlen (bits_lay hlay) hO hS) fun H e s' => hCX w H s₁ e s') fun r s' hq => ?_)
  obtain ⟨rfl, h2, h3, h4⟩ := hq
  exact ⟨.inl ⟨.bool true, .bool true, [], rfl, fun _ => rfl, .bool true, Att.post_true l _, fun _ => ⟨List.Pairwise.nil, fun _ hm => (nomatch hm)⟩⟩, h2, h3, h4⟩
end L3

set_option Elab.async false
set_option linter.all false
set_option maxRecDepth 100000
set_option maxHeartbeats 4000000
/-! THE KNOTS of an elder and a copy: the ways from each. -/
namespace Vm
open PySem PySem.Spec PyProof.Rows L2 L3
/-! ### the ways, as they lie there -/
theorem cutTake {α : Type} (g : α → V) (xs : List α) (n : Nat) : cutV (xs.map g) none (some ((n : Nat) : Int)) = (xs.take n).map g := by
  unfold cutV
  rw [HT.sIx_none, HT.sIx_nat, List.drop_zero, Nat.sub_zero, List.length_map, ← List.map_take]
  congr 1
  by_cases h : n ≤ xs.length
  · rw [Nat.min_eq_left h]
  · rw [Nat.min_eq_right (by omega), List.take_length, List.take_of_length_le (by omega)]
end Vm

set_option Elab.async false
set_option linter.all false
/-! the tables of a grid, as numbers alone: what a walk of the ways makes of them (no program here) -/
namespace Vm
open PySem PySem.Spec PyProof.Rows L2 L3
/-! ### the walk back: the table of the rest -/
end Vm

set_option Elab.async false
set_option linter.all false
set_option maxRecDepth 100000
set_option maxHeartbeats 4000000
/-! TABLES: lists of lists of numbers or None. -/
namespace L3
open PySem PySem.Spec PyProof.Rows L2
theorem rep_fold (u : Value) : ∀ (k : Nat) (acc : Array Value), List.foldl (fun x1 x2 => x1 ++ x2) acc (List.replicate k #[u]) = acc ++ (List.replicate k u).toArray
  | 0, acc => by simp
  | k + 1, acc => by
    rw [List.replicate_succ, List.foldl_cons, rep_fold u k, List.replicate_succ]
    apply Array.ext'
    simp
section
variable {pg : Program} {wo : World} {Ar : Around} {Ex : Value → Shared → Prop} {st : Shared}
/-- a list times a number, by the two slots that are asked: int.__rmul__ declines, list.__mul__ lays the new list -/
theorem mulL_new {a : Addr} {its : Array Value} {c : Nat} {n : Int} {tk : Tok} {R : Value → Shared → Prop} (ha : st.heap.get? a = some { cls := .type "list", data := .seq its c })
    (h1 : 0 ≤ n) (h2 : n < 2 ^ 40) (h3 : its.size * n.toNat ≤ 2 ^ 24)
    (hR : R (.ref st.heap.objs.size) { st with heap := st.heap.push { cls := .type "list", data := .seq (List.foldl (· ++ ·) #[] (List.replicate (if its.isEmpty = true then 0 else n.toNat) its)) } }) :
    wpAny (model pg wo) Ar (binaryOp .Mult (.ref a) (.int n tk)) R Ex st := by
  have fits : ¬ (!Builtin.List.listFitsIndex n) = true := by
    unfold Builtin.List.listFitsIndex
    simp
    omega
  have short : ¬ Builtin.List.listTooLong (its.size * n.toNat) = true := by
    unfold Builtin.List.listTooLong sizeLine
    simp
    omega
  have isL : st.TypeIs (.ref a) "list" := ⟨_, ha, rfl⟩
  refine wpAny_binaryOp_repeat_ref (by decide : (Value.type "list" == Value.type "int") = false) isL (fun s' => typeIs_int s' n tk) noFill_list_mul F.fills_int_mul F.slot_int_rmul repeat_list F.slot_int_index.lookup ?_
  refine call_meets F.slot_int_rmul (typeIs_int st n tk) F.entry_int_rmul (F.args_int_rmul_2 _ _) (int___rmul___int_list n tk a its c) ?_
  refine ⟨ha, rfl, isL, ?_⟩
  exact call_meets F.slot_list_mul isL F.entry_list_mul (F.args_list_mul_2 _ _) (AutoListH.list___mul___list_int_3 a its c n tk fits (by omega) short) ⟨ha, hR⟩
end
section
variable {X : Cx}
theorem vals_rep {v : V} {u : Value} (r : RelV v u) : ∀ k : Nat, Vals (List.replicate k v) (List.replicate k u)
  | 0 => .nil
  | k + 1 => .cons r (vals_rep r k)
/-- [v] * n -/
theorem op_mulL : OpR X (binaryOp .Mult) (fun x y H Q => ∃ (a : Addr) (v : V) (n : Nat), x = .ref a ∧ y = .int ((n : Nat) : Int) ∧ H a = some (.lst [v]) ∧ n ≤ 100000 ∧ ∀ p, H p = none → Q (.ref p) (upd H p (.lst (List.replicate n v)))) := by
  intro pins s σ H x y w u Q I rx ry h
  obtain ⟨a, v, n, rfl, rfl, hH, hn, q⟩ := h
  obtain rfl : w = Value.ref a := rx
  obtain ⟨t, rfl⟩ := ry
  obtain ⟨its, k, r, e, z⟩ := I.lst hH
  obtain ⟨u, rfl, ru⟩ := vals1 r
  have hf : H s.heap.objs.size = none := I.hok.fresh (Nat.le_refl _)
  have hx : ((n : Nat) : Int).toNat = n := Int.toNat_natCast n
  have hE : (if (#[u] : Array Value).isEmpty = true then 0 else ((n : Nat) : Int).toNat) = n := by rw [if_neg (by simp), hx]
  refine mulL_new (its := #[u]) e (by omega) (by omega) (by rw [hx]; show 1 * n ≤ 2 ^ 24; omega) ?_
  rw [hE, rep_fold]
  refine ⟨.ref s.heap.objs.size, upd H s.heap.objs.size (.lst (List.replicate n v)), I.laid (t' := s.toks) (fun b u e => Heap.get?_push_of_some _ e) (Nat.le_refl _) ?_, rfl, q _ hf⟩
  refine ⟨by rw [List.length_replicate]; show n ≤ sizeLine; unfold sizeLine; omega, List.replicate n u, 0, vals_rep ru n, ?_⟩
  have : (#[] ++ (List.replicate n u).toArray : Array Value) = (List.replicate n u).toArray := by simp
  rw [this]
  exact Heap.get?_push_size _ rfl
end
end L3
namespace Vm
open PySem PySem.Spec PyProof.Rows L2 L3
theorem ixN_nat {n j : Nat} (h : j < n) : ixN n ((j : Nat) : Int) = some j := by
  unfold ixN
  have h1 : ¬ ((j : Int) < 0) := by omega
  simp [h1, h]
end Vm

set_option Elab.async false
set_option linter.all false
set_option maxRecDepth 100000
namespace L2
open PySem PySem.Spec PyProof.Rows
/-! ### lists of pairs as tables -/
section
variable {κ : Type} [DecidableEq κ]
def valV (kvs : List (κ × V)) (k : κ) : Option V := (kvs.find? fun kv => decide (kv.1 = k)).map (·.2)
/-- in its place, or at the end -/
def putK (kvs : List (κ × V)) (k : κ) (v : V) : List (κ × V) :=
  if (kvs.any fun kv => decide (kv.1 = k)) = true then kvs.map (fun kv => if kv.1 = k then (kv.1, v) else kv) else kvs ++ [(k, v)]
theorem valV_pos {p : κ × V} {r : List (κ × V)} {k : κ} (e : p.1 = k) : valV (p :: r) k = some p.2 := by simp [valV, List.find?_cons, e]
theorem valV_neg {p : κ × V} {r : List (κ × V)} {k : κ} (e : ¬ p.1 = k) : valV (p :: r) k = valV r k := by simp [valV, List.find?_cons, e]
theorem valV_any (k : κ) : ∀ kvs : List (κ × V), (kvs.any fun kv => decide (kv.1 = k)) = (valV kvs k).isSome
  | [] => rfl
  | p :: r => by
    rw [List.any_cons]
    by_cases e : p.1 = k
    · simp only [valV_pos e, decide_eq_true e, Bool.true_or, Option.isSome_some]
    · rw [valV_neg e, decide_eq_false e, Bool.false_or]; exact valV_any k r
theorem length_putK (kvs : List (κ × V)) (k : κ) (v : V) : (putK kvs k v).length ≤ kvs.length + 1 := by
  unfold putK
  split
  · rw [List.length_map]; omega
  · rw [List.length_append, List.length_cons, List.length_nil]; omega
theorem putK_new {kvs : List (κ × V)} {k : κ} (v : V) (h : valV kvs k = none) : putK kvs k v = kvs ++ [(k, v)] := by
  unfold putK
  rw [valV_any, h]
  exact if_neg (by decide)

theorem RelO.getD {o : Option V} {u : Option Value} {d : V} {d' : Value} (r : RelO o u) (rd : RelV d d') : RelV (o.getD d) (u.getD d') := by
  cases o with
  | none => cases u with
    | none => exact rd
    | some _ => exact (show False from r).elim
  | some _ => cases u with
    | none => exact (show False from r).elim
    | some _ => exact r

/-- raw tables of the same keys -/
theorem KV.val {kvs : List (κ × V)} {vs : List (κ × Value)} (r : KV kvs vs) (k : κ) : RelO (valV kvs k) (valueAt vs k) := by
  unfold KV at r
  induction r with
  | nil => exact True.intro
  | @cons p q ps qs h t ih =>
    obtain ⟨h1, h2⟩ := h
    by_cases e : p.1 = k
    · have e' : q.1 = k := h1.symm.trans e
      have b : valueAt (q :: qs) k = some q.2 := by simp [valueAt, List.find?_cons, e']
      rw [valV_pos e, b]; exact h2
    · have e' : ¬ q.1 = k := fun z => e (h1.trans z)
      have b : valueAt (q :: qs) k = valueAt qs k := by simp [valueAt, List.find?_cons, e']
      rw [valV_neg e, b]; exact ih
theorem KV.any {kvs : List (κ × V)} {vs : List (κ × Value)} (r : KV kvs vs) (k : κ) : (kvs.any fun kv => decide (kv.1 = k)) = vs.any fun kv => decide (kv.1 = k) := by
  unfold KV at r
  induction r with
  | nil => rfl
  | cons h t ih => rw [List.any_cons, List.any_cons, ih, h.1]
theorem KV.repl {kvs : List (κ × V)} {vs : List (κ × Value)} (r : KV kvs vs) (k : κ) {y : V} {u : Value} (ry : RelV y u) :
    KV (kvs.map fun kv => if kv.1 = k then (kv.1, y) else kv) (vs.map fun kv => if kv.1 = k then (kv.1, u) else kv) := by
  unfold KV at r ⊢
  induction r with
  | nil => exact .nil
  | @cons p q ps qs h t ih =>
    rw [List.map_cons, List.map_cons]
    refine .cons ?_ ih
    obtain ⟨h1, h2⟩ := h
    by_cases e : p.1 = k
    · rw [if_pos e, if_pos (h1.symm.trans e)]; exact ⟨h1, ry⟩
    · rw [if_neg e, if_neg (fun z => e (h1.trans z))]; exact ⟨h1, h2⟩
theorem KV.put {kvs : List (κ × V)} {vs : List (κ × Value)} (r : KV kvs vs) (k : κ) {y : V} {u : Value} (ry : RelV y u) : KV (putK kvs k y) (stored vs k u) := by
  unfold putK stored
  rw [r.any k]
  by_cases e : (vs.any fun kv => decide (kv.1 = k)) = true
  · rw [if_pos e, if_pos e]; exact r.repl k ry
  · rw [if_neg e, if_neg e]; exact Paired.snoc r ⟨rfl, ry⟩
theorem KV.length {kvs : List (κ × V)} {vs : List (κ × Value)} (r : KV kvs vs) : kvs.length = vs.length := Paired.length r
end


/-! ### a tracked dict, its keys ints and texts or tuples of these -/
section
variable {P : Program} {w : World} {H : Hp} {h : Heap} {a : Addr}
end
section
variable {X : Cx} {pins : List (Addr × Obj)} {σ : St} {H : Hp} {s : Shared} {a : Addr} {y v : V} {u r : Value} {o : Option V} {A : Around} {E : Value → Shared → Prop}
theorem Inv.big (I : Inv X pins σ H s) : sysModules < s.heap.objs.size := by
  have h : mainGlobals < s.heap.objs.size := (I.mod.glob.keeps I.bk).lt
  exact Nat.lt_trans (by decide) h
/-- a dict's object is replaced -/
theorem d_write {h' : Heap} {t' : Nat} {ob : HO} (I : Inv X pins σ H s) (mu : Mut (H a)) (hs : Heap.SameBut a s.heap h') (he : ∃ q, h'.get? a = some q) (new : ObjOk X.prog X.w (upd H a ob) h' a ob) :
    Inv X pins σ (upd H a ob) { s with heap := h', toks := t' } :=
  I.write (x := a) (e := a) mu (.inl rfl) (fun b q hb z => (hs.2 b hb).trans z) he new
end
end L2

set_option Elab.async false
set_option linter.all false
set_option maxRecDepth 100000
set_option maxHeartbeats 4000000
/-! Dicts whose keys are texts or None; what they hold as a tuple of pairs. -/
namespace L2
open PySem PySem.Spec PyProof.Rows
/-- a text or None, as a key -/
def optIs : Option Str → Value → Bool
  | none, .none => true
  | none, _ => false
  | some x, v => keyIs (.inr x) v
theorem optIs_shape {k : Option Str} {v : Value} (h : optIs k v = true) : (k = none ∧ v = .none) ∨ ∃ x t, k = some x ∧ v = .str x t := by
  cases k with
  | none => cases v <;> first | exact .inl ⟨rfl, rfl⟩ | cases h
  | some x =>
    rcases keyIs_shape (show keyIs (.inr x) v = true from h) with ⟨i, t, e, _⟩ | ⟨y, t, e, rfl⟩
    · cases e
    · cases e; exact .inr ⟨x, t, rfl, rfl⟩
theorem eqBool_nones {prog : Program} {w : World} {A : Around} {E : Value → Shared → Prop} {s : Shared} {Q : Bool → Shared → Prop} (h : Q true s) : wpAny (model prog w) A (PySem.eqBool .none .none) Q E s := by
  unfold PySem.eqBool
  refine wpAny_holding ?_
  rw [if_pos (by rfl)]
  exact wpAny_bind (wpAny_rule (wpAny_pure h))
def optH (w : World) : Option Str → Int
  | none => PySem.W.hashW w.params .none
  | some x => keyH w (.inr x)
def optKind (prog : Program) (w : World) : PySem.KeyKind prog w (Option Str) where
  is := optIs
  hash := optH w
  inj := fun v a b ha hb => by
    rcases optIs_shape ha with ⟨rfl, rfl⟩ | ⟨x, t, rfl, rfl⟩
    · rcases optIs_shape hb with ⟨rfl, e⟩ | ⟨y, u, rfl, e⟩
      · rfl
      · exact nomatch e
    · rcases optIs_shape hb with ⟨rfl, e⟩ | ⟨y, u, rfl, e⟩
      · exact nomatch e
      · injection e with e1 _; rw [e1]
  byValue := fun k v h => by
    rcases optIs_shape h with ⟨rfl, rfl⟩ | ⟨x, t, rfl, rfl⟩ <;> rfl
  pyHash := fun hv h => by
    rcases optIs_shape hv with ⟨rfl, rfl⟩ | ⟨x, t, rfl, rfl⟩
    · exact PySem.W.pyHash_slot (T := "NoneType") rfl F.slot_NoneType_hash F.entry_NoneType_hash (F.args_NoneType_hash_1 _) (beq_builtin_none _) (.inl rfl) (wpAny_bind (wpAny_pure (wpAny_bind (wpAny_mkInt (wpAny_pure ⟨_, _, rfl, h⟩)))))
    · exact wpAny_pyHash_str h
  eqBool := fun hu hv h => by
    rcases optIs_shape hu with ⟨rfl, rfl⟩ | ⟨x, t, rfl, rfl⟩
    · rcases optIs_shape hv with ⟨rfl, rfl⟩ | ⟨y, u, rfl, rfl⟩
      · rw [decide_eq_true rfl] at h
        exact eqBool_nones h
      · rw [decide_eq_false (fun q => nomatch q)] at h; exact SeqAt.EqAt.none_str y u _ _ _ _ h
    · rcases optIs_shape hv with ⟨rfl, rfl⟩ | ⟨y, u, rfl, rfl⟩
      · rw [decide_eq_false (fun q => nomatch q)] at h; exact SeqAt.EqAt.str_none x t _ _ _ _ h
      · rw [show decide ((some x : Option Str) = some y) = decide (x = y) by
          by_cases e : x = y
          · subst e; simp
          · rw [decide_eq_false e, decide_eq_false (fun q => e (Option.some.inj q))]] at h
        exact wpAny_eqBool_str h
  «strs» := fun k x t v h => by
    rcases optIs_shape h with ⟨rfl, e⟩ | ⟨y, u, rfl, e⟩
    · exact nomatch e
    · injection e with e1 _
      subst e1
      cases v <;> rfl
def optV : Option Str → V
  | none => .non
  | some x => .str x
theorem optV_is {P : Program} {w : World} {k : Option Str} {u : Value} (r : RelV (optV k) u) : (optKind P w).is k u = true := by
  cases k with
  | none => cases (show u = Value.none from r); rfl
  | some x =>
    obtain ⟨t, rfl⟩ := (show ∃ t, u = Value.str x t from r)
    exact keyIs_str x t
/-- a dict whose keys are texts or None -/
def DN (P : Program) (w : World) (a : Addr) (kvs : List (Option Str × V)) : HO := .ext fun h => kvs.length ≤ sizeLine ∧ (a == sysModules) = false ∧ ∃ vs, KV kvs vs ∧ h.DictOf (optKind P w) a vs
/-- the view of what a dict holds -/
def ViewO (v d : Addr) : HO := .ext fun h => h.get? v = some { cls := .type "dict_items", data := .fields #[.ref d] }
section
variable {X : Cx} {pins : List (Addr × Obj)} {σ : St} {H : Hp} {s : Shared} {a : Addr} {kvs : List (Option Str × V)}
theorem dn_ok {P : Program} {w : World} {h : Heap} {vs : List (Option Str × Value)} (hl : kvs.length ≤ sizeLine) (hd : (a == sysModules) = false) (rel : KV kvs vs) (dd : h.DictOf (optKind P w) a vs) : ObjOk P w H h a (DN P w a kvs) := by
  obtain ⟨o, es, ep, ho, r⟩ := id dd
  refine ⟨⟨hl, hd, vs, rel, dd⟩, ⟨o, ho⟩, fun h1 h2 x k => ?_⟩
  obtain ⟨z1, z2, ws, z3, o', es', ep', ho', r'⟩ := x
  exact ⟨z1, z2, ws, z3, o', es', ep', k _ ho', r'⟩
theorem dn_of (I : Inv X pins σ H s) (e : H a = some (DN X.prog X.w a kvs)) : kvs.length ≤ sizeLine ∧ (a == sysModules) = false ∧ ∃ vs, KV kvs vs ∧ s.heap.DictOf (optKind X.prog X.w) a vs := (I.hok a _ e).1
theorem dn_type (I : Inv X pins σ H s) (e : H a = some (DN X.prog X.w a kvs)) : s.TypeIs (.ref a) "dict" ∧ ∀ b, Value.ref a = .ref b → ∃ ob, s.heap.get? b = some ob ∧ ob.dict = none := by
  obtain ⟨_, _, vs, _, dd⟩ := dn_of I e
  refine ⟨dd.typeIs, fun b q => ?_⟩
  cases q
  obtain ⟨ob, _, _, h1, h2, _⟩ := dd
  exact ⟨ob, h1, h2.2.1⟩
end
/-- {} -/
def tDNewN (P : Program) (w : World) : TE := fun _ H Q => ∀ p, H p = none → Q (.ref p) (upd H p (DN P w p []))
theorem pe_dnewN {X : Cx} {pos : Pos} : PE X (.Dict [] [] pos) (tDNewN X.prog X.w) := fun pins s σ H Q I h =>
  wpAny_Dict_empty ⟨.ref s.heap.objs.size, _, I.laid (a := s.heap.objs.size) (o := DN X.prog X.w s.heap.objs.size []) (t' := s.toks) (fun _ _ q => Heap.get?_push_of_some _ q) (Nat.le_refl _) (dn_ok (Nat.zero_le _) (beq_eq_false_iff_ne.mpr (Ne.symm (Nat.ne_of_lt I.big))) .nil (Heap.DictOf.new s.heap)), rfl, h _ (I.hok.fresh (Nat.le_refl _))⟩
section
variable {X : Cx} {o e : Expr} {es : List Expr} {to : TE} {t : TA} {name : Str} {apos cpos : Pos} {id : String} {r : V → List V → Hp → VK → Prop}
def tBMN (P : Program) (w : World) (r : V → List V → Hp → VK → Prop) (to : TE) (t : TA) : TE := fun σ H Q => to σ H fun x H1 => ∃ a kvs, x = .ref a ∧ H1 a = some (DN P w a kvs) ∧ t σ H1 fun xs H2 => r x xs H2 Q
def tBMN0 (P : Program) (w : World) (r : V → List V → Hp → VK → Prop) (to : TE) : TE := fun σ H Q => to σ H fun x H1 => ∃ a kvs, x = .ref a ∧ H1 a = some (DN P w a kvs) ∧ r x [] H1 Q
theorem pe_bmN0 (slot : Slot "dict" name id) (hty : typeOf (.builtin id) = pure (.type "method_descriptor")) (hm : MtM X id r) (ho : PE X o to)
    (hbase : attributeBase o name X.env (eval o X.env) = eval o X.env := by rfl) (hline : (apos.endLine == cpos.line) = true := by rfl) : PE X (.Call (.Attribute o name apos) [] [] cpos) (tBMN0 X.prog X.w r to) := by
  intro pins s σ H Q I h
  refine wpAny_Call_method0_late hbase hline (thn (ho pins s σ H _ I h) fun v s1 ⟨x, H1, I1, r1, a, kvs, ex, hd, q1⟩ => ?_)
  subst ex
  cases r1
  obtain ⟨h1, h2⟩ := dn_type I1 hd
  exact ⟨"dict", id, F.plainAttrs_dict, slot, hty, h1, h2, Calls.callWith_builtin rfl (PySem.evalArgs_none (hm pins s1 σ H1 (.ref a) [] _ [] Q I1 rfl .nil q1))⟩
theorem pe_bmN (slot : Slot "dict" name id) (hty : typeOf (.builtin id) = pure (.type "method_descriptor")) (hm : MtM X id r) (ho : PE X o to) (ha : PA X (e :: es) t)
    (hbase : attributeBase o name X.env (eval o X.env) = eval o X.env := by rfl)
    (hfew : ((backTo cpos (starEach (e :: es) X.env)).all (fun x => !x.1) && (backToKw cpos (keywordEach [] X.env)).all (fun x => x.1.isSome)
      && decide ((e :: es).length + ([] : List Keyword).length + (if ([] : List Keyword).isEmpty then 0 else 1) < 30)) = true := by rfl)
    (hline : (apos.endLine == cpos.line) = true := by rfl) (hs : starEach (e :: es) X.env = (false, eval e X.env) :: starEach es X.env := by rfl) (hplain : (backTo cpos (starEach es X.env)).any (·.1) = false := by rfl) :
    PE X (.Call (.Attribute o name apos) (e :: es) [] cpos) (tBMN X.prog X.w r to t) := by
  intro pins s σ H Q I h
  refine wpAny_Call_method_late hbase hfew hline rfl (thn (ho pins s σ H _ I h) fun v s1 ⟨x, H1, I1, r1, a, kvs, ex, hd, q1⟩ => ?_)
  subst ex
  cases r1
  obtain ⟨h1, h2⟩ := dn_type I1 hd
  refine ⟨"dict", id, F.plainAttrs_dict, slot, hty, h1, h2, ?_⟩
  have hA := ha cpos pins s1 σ H1 _ I1 q1
  rw [hs] at hA ⊢
  refine Calls.callWith_builtin (by show (false || (backTo cpos (starEach es X.env)).any (·.1)) = false; rw [hplain] <;> rfl) (Calls.evalArgs_plain ?_)
  exact thn hA fun us s2 ⟨vs, H2, I2, r2, q2⟩ => hm pins s2 σ H2 (.ref a) vs _ us Q I2 rfl r2 q2
end
section
variable {X : Cx}
/-- d.get(k, x) -/
def rDGetN (P : Program) (w : World) : V → List V → Hp → VK → Prop := fun x vs H Q => ∃ a kvs k y, x = .ref a ∧ vs = [optV k, y] ∧ H a = some (DN P w a kvs) ∧ Q ((valV kvs k).getD y) H
theorem mt_dgetN : MtM X "dict.get" (rDGetN X.prog X.w) := by
  intro pins s σ H x vs v us Q I rx rv h
  obtain ⟨a, kvs, k, y, rfl, rfl, e, q⟩ := h
  cases rx
  obtain ⟨u1, u2, rfl, r1, r2⟩ := vals2 rv
  obtain ⟨z, hd, ws, rel, dd⟩ := dn_of I e
  exact call_meetsIn PySem.F.slot_dict_get dd.typeIs PySem.F.entry_dict_get (PySem.F.args_dict_get_3 _ _ _) (meets_dict_get_default (optKind X.prog X.w) a (optV_is r1) hd u2) ⟨_, dd.mapOf, _, H, I.tok _, (rel.val k).getD r2, q⟩
/-- d[k] = v -/
def rSetN (P : Program) (w : World) : V → V → V → Hp → (Hp → Prop) → Prop := fun o i v H Q => ∃ a kvs k, o = .ref a ∧ i = optV k ∧ H a = some (DN P w a kvs) ∧ kvs.length < sizeLine ∧ Q (upd H a (DN P w a (putK kvs k v)))
theorem set_dictN : PSet X (rSetN X.prog X.w) := by
  intro pins s σ H o i v ov iv u Q I ro ri rv h
  obtain ⟨a, kvs, k, rfl, rfl, e, l, q⟩ := h
  cases ro
  obtain ⟨z, hd, vs, rel, dd⟩ := dn_of I e
  have hz : vs.length ≤ sizeLine := by rw [← rel.length]; exact z
  have hl : (putK kvs k v).length ≤ sizeLine := by have := length_putK kvs k v; omega
  refine wpAny_setItem_pairs (hsz := hz) (optV_is ri) dd fun h' dd' hs => ⟨_, ?_, q⟩
  have he : ∃ q, h'.get? a = some q := let ⟨q, _, _, hq, _⟩ := dd'; ⟨q, hq⟩
  exact d_write I (by rw [e]; exact True.intro) hs he (dn_ok hl hd (rel.put k rv) dd')
/-- d.items() -/
def rItemsN (P : Program) (w : World) : V → List V → Hp → VK → Prop := fun x vs H Q => ∃ a kvs, x = .ref a ∧ vs = [] ∧ H a = some (DN P w a kvs) ∧ ∀ v, H v = none → Q (.ref v) (upd H v (ViewO v a))
theorem mt_itemsN : MtM X "dict.items" (rItemsN X.prog X.w) := by
  intro pins s σ H x vs v us Q I rx rv h
  obtain ⟨a, kvs, rfl, rfl, e, q⟩ := h
  cases rx
  cases rv
  obtain ⟨z, hd, ws, rel, dd⟩ := dn_of I e
  refine call_meetsIn PySem.F.slot_dict_items dd.typeIs PySem.F.entry_dict_items (PySem.F.args_dict_items_1 _) (meets_dict_items (optKind X.prog X.w) a hd) ⟨⟨_, dd⟩, .ref s.heap.objs.size, _, I.laid (a := s.heap.objs.size) (o := ViewO s.heap.objs.size a) (t' := s.toks) (fun _ _ q => Heap.get?_push_of_some _ q) (Nat.le_refl _) ?_, rfl, q _ (I.hok.fresh (Nat.le_refl _))⟩
  exact ⟨Heap.get?_push_size _ rfl, ⟨_, Heap.get?_push_size _ rfl⟩, fun h1 h2 x k => k _ x⟩
end
end L2

set_option Elab.async false
set_option linter.all false
set_option maxRecDepth 100000
set_option maxHeartbeats 4000000
namespace PySem
open AutoSeq1 (wpAny_loadPart')
open PySem.W (KdxG kdx_collect)
theorem tuple_of_items {prog : Program} {w : World} {K : Type} [DecidableEq K] {knd : KeyKind prog w K} {r d : Addr} {kvs : List (K × Value)} {ep : Nat} (hn : kvs.length ≤ sizeLine) :
    MeetsIn prog w (Builtin.«tuple.__new__» ⟨[.type "tuple", .ref r], []⟩)
      (fun A R s => A.handled = none ∧ s.heap.IsItemsView r d ∧ s.heap.DictAt knd d kvs ep ∧ ∀ (h' : Heap) (tk : Nat) (as : List Addr), (∀ b o, s.heap.get? b = some o → h'.get? b = some o) → as.length = kvs.length → KdxG knd kvs s.heap.objs.size h' as →
        R (.ok (.ret (.ref h'.objs.size))) { s with heap := h'.push { cls := .type "tuple", data := .seq (as.map Value.ref).toArray }, toks := tk }) :=
  .of_wp fun A R s h => by
    obtain ⟨hh, hv, hm, h⟩ := h
    have hsub := sub_tuple_self
    have hinit := init_tuple_lookup
    have hmh := madeHere_tuple
    obtain ⟨o, ho, hc, hd⟩ := id hv
    have hT : s.TypeIs (.ref r) "dict_items" := ⟨o, ho, hc⟩
    have hh1 : A.in1.handled = none := hh
    wp_walk using wpAny_loadPart' ho, wpAny_typeOf hT, kdx_collect (knd := knd) (kvs := kvs) (ep := ep) (d := d) hh1 hv hm hn
    intro h' tk as hk hl hG
    show wpAny _ _ (Builtin.Tuple.tupleExact (as.map Value.ref).toArray >>= fun v => ret v) _ _ _
    unfold Builtin.Tuple.tupleExact
    refine wpAny_bind (wpAny_newObj_type ?_ (show (as.map Value.ref).toArray.size ≤ sizeLine by rw [List.size_toArray, List.length_map, hl]; exact hn))
    exact wpAny_pure ⟨_, rfl, h h' tk as hk hl hG⟩
theorem call_tuple_items {prog : Program} {w : World} {K : Type} [DecidableEq K] {knd : KeyKind prog w K} {A : Around} {E : Value → Shared → Prop} {s : Shared} {r d : Addr} {kvs : List (K × Value)} {ep : Nat} {Q : Value → Shared → Prop} (hh : A.handled = none) (hv : s.heap.IsItemsView r d) (hm : s.heap.DictAt knd d kvs ep) (hn : kvs.length ≤ sizeLine)
    (h : ∀ (h' : Heap) (tk : Nat) (as : List Addr), (∀ b o, s.heap.get? b = some o → h'.get? b = some o) → as.length = kvs.length → KdxG knd kvs s.heap.objs.size h' as →
        Q (.ref h'.objs.size) { s with heap := h'.push { cls := .type "tuple", data := .seq (as.map Value.ref).toArray }, toks := tk }) : wpAny (model prog w) A (call (.type "tuple") [.ref r]) Q E s :=
  callType_newIn F.called_tuple (by decide) (F.typeCall_tuple_1 _) (F.newCall_tuple_1 _) (fun obj => F.args_object_init_2 obj _) F.entry_tuple_new
    (tuple_of_items (knd := knd) (ep := ep) (d := d) hn) ⟨hh, hv, hm, fun h' tk as hk hl hG => ⟨⟨_, Heap.get?_push_size _ rfl, rfl⟩, h h' tk as hk hl hG⟩⟩
end PySem
namespace L2
open PySem PySem.Spec PyProof.Rows
def updAll (H : Hp) (os : List (Addr × HO)) : Hp := fun b => match os.find? (fun p => p.1 == b) with | some p => some p.2 | none => H b
theorem updAll_in {H : Hp} {os : List (Addr × HO)} {b : Addr} {p : Addr × HO} (e : os.find? (fun p => p.1 == b) = some p) : updAll H os b = some p.2 := by unfold updAll; rw [e]
theorem updAll_out {H : Hp} {os : List (Addr × HO)} {b : Addr} (h : ∀ p ∈ os, p.1 ≠ b) : updAll H os b = H b := by
  unfold updAll
  rw [List.find?_eq_none.mpr fun p hp => by rw [beq_iff_eq]; exact h p hp]
theorem updAll_mem {H : Hp} {os : List (Addr × HO)} {p : Addr × HO} (hn : (os.map (·.1)).Nodup) (h : p ∈ os) : updAll H os p.1 = some p.2 := by
  induction os with
  | nil => cases h
  | cons q r ih =>
    unfold updAll
    rw [List.map_cons, List.nodup_cons] at hn
    rcases List.mem_cons.mp h with rfl | h
    · rw [List.find?_cons_of_pos (by simp)]
    · rw [List.find?_cons_of_neg (by
        rw [beq_iff_eq]
        intro e
        exact hn.1 (e ▸ List.mem_map.mpr ⟨p, h, rfl⟩))]
      exact ih hn.2 h
section
variable {X : Cx} {pins : List (Addr × Obj)} {σ : St} {H : Hp} {s : Shared}
theorem Inv.lays {h' : Heap} {t' : Nat} (I : Inv X pins σ H s) (k : ∀ b u, s.heap.get? b = some u → h'.get? b = some u) (os : List (Addr × HO)) (hp : ∀ p ∈ os, s.heap.objs.size ≤ p.1) (new : ∀ p ∈ os, ∀ H2, ObjOk X.prog X.w H2 h' p.1 p.2) : Inv X pins σ (updAll H os) { s with heap := h', toks := t' } := by
  have old : ∀ b, b < s.heap.objs.size → updAll H os b = H b := fun b hb => updAll_out fun p hp' e => absurd (e ▸ hp p hp') (Nat.not_le_of_lt hb)
  have oldH : ∀ b u, H b = some u → updAll H os b = H b := fun b u e => old b (I.hok b u e).lt
  refine I.un ⟨fun b u q _ _ _ => k b u q, fun b u q _ _ _ => ⟨u.slots, k b u q⟩, fun b u q n _ => by rw [old b (Heap.lt_size q)]; exact n, fun b u q _ => ⟨u, k b u q⟩, fun b xs q => by rw [oldH b _ q]; exact q, fun b u xs q => by rw [oldH b _ q]; exact q, fun b ps q => ⟨#[], by rw [oldH b _ q, q]; simp⟩⟩ ?_
  intro b u e
  cases ef : os.find? (fun p => p.1 == b) with
  | some p =>
    rw [updAll_in ef] at e
    cases e
    have h1 := List.mem_of_find?_eq_some ef
    have h2 := List.find?_some ef
    rw [beq_iff_eq] at h2
    subst h2
    exact new p h1 _
  | none =>
    have e2 : H b = some u := by unfold updAll at e; rw [ef] at e; exact e
    exact (I.hok b u e2).stay (fun c v _ q => k c v q) (fun c q => by rw [oldH c _ q]; exact q) fun c xs q => by rw [oldH c _ q]; exact q
end
/-- the pairs of a dict as they lie there -/
structure PairsAt (H : Hp) (as : List Addr) (kvs : List (Option Str × V)) : Prop where
  len : as.length = kvs.length
  item : ∀ (i : Nat) (a : Addr) (k : Option Str) (v : V), as[i]? = some a → kvs[i]? = some (k, v) → H a = some (.tup [optV k, v])
theorem optV_rel {P : Program} {w : World} {k : Option Str} {u : Value} (h : (optKind P w).is k u = true) : RelV (optV k) u := by
  rcases optIs_shape (show optIs k u = true from h) with ⟨rfl, rfl⟩ | ⟨x, t, rfl, rfl⟩
  · rfl
  · exact ⟨t, rfl⟩
theorem vals_refs : ∀ as : List Addr, Vals (as.map V.ref) (as.map Value.ref)
  | [] => .nil
  | a :: r => .cons rfl (vals_refs r)
theorem Paired.at {α β : Type} {F : α → β → Prop} : ∀ {xs : List α} {ys : List β} {i : Nat} {x : α}, Paired F xs ys → xs[i]? = some x → ∃ y, ys[i]? = some y ∧ F x y
  | _, _, _, _, .nil, e => by simp at e
  | _, _, 0, _, .cons r _, e => by simp at e; subst e; exact ⟨_, rfl, r⟩
  | _, _, i + 1, x, .cons _ t, e => by
    obtain ⟨u, h1, h2⟩ := Paired.at (i := i) (x := x) t (by simpa using e)
    exact ⟨u, by simpa using h1, h2⟩
/-- tuple(d.items()) -/
theorem call_tuple_view {X : Cx} (hc : X.calm = true) : CallR X (.type "tuple") (fun xs H Q => ∃ v a kvs, xs = [.ref v] ∧ H v = some (ViewO v a) ∧ H a = some (DN X.prog X.w a kvs) ∧
    ∀ (H' : Hp) (t : Addr) (as : List Addr), (∀ b o, H b = some o → H' b = some o) → H t = none → H' t = some (.tup (as.map V.ref)) → PairsAt H' as kvs → Q (.ref t) H') := by
  intro pins s σ H xs us Q I r h
  obtain ⟨v, a, kvs, rfl, hv, ha, q⟩ := h
  obtain ⟨u, rfl, rx⟩ := vals1 r
  cases rx
  obtain ⟨z, hd, ws, rel, dd⟩ := dn_of I ha
  obtain ⟨o, es, ep, ho, rr⟩ := dd
  have hview : s.heap.IsItemsView v a := ⟨_, (I.hok v _ hv).1, rfl, rfl⟩
  have hz : ws.length ≤ sizeLine := by rw [← rel.length]; exact z
  refine call_tuple_items (knd := optKind X.prog X.w) (kvs := ws) (ep := ep) (d := a) (I.ok.hd hc) hview ⟨o, es, ho, rr⟩ hz fun h' tk as hk hl hG => ?_
  have hlk : as.length = kvs.length := by rw [hl, rel.length]
  have enames : (((as.zip kvs).map fun p => (p.1, HO.tup [optV p.2.1, p.2.2])).map fun q => q.1) = as := by
    rw [List.map_map]
    exact List.map_fst_zip (Nat.le_of_eq hlk)
  have hnd : (((as.zip kvs).map fun p => (p.1, HO.tup [optV p.2.1, p.2.2])).map fun q => q.1).Nodup := by
    rw [enames]
    exact hG.rise.imp fun h => Nat.ne_of_lt h
  have I1 := I.lays (h' := h') (t' := tk) hk ((as.zip kvs).map fun p => (p.1, HO.tup [optV p.2.1, p.2.2])) (fun p hp => by
      have h1 : p.1 ∈ as := by rw [← enames]; exact List.mem_map.mpr ⟨p, hp, rfl⟩
      exact Nat.le_of_lt (hG.above _ h1)) (fun p hp H2 => by
      obtain ⟨x, hx, rfl⟩ := List.mem_map.mp hp
      obtain ⟨j, hj⟩ := List.mem_iff_getElem?.mp hx
      obtain ⟨h1, h2⟩ := List.getElem?_zip_eq_some.mp hj
      obtain ⟨key, k', x', e1, e2, e3⟩ := hG.pairs j _ h1
      obtain ⟨y, ey, r1, r2⟩ := Paired.at rel h2
      rw [e1] at ey
      cases ey
      refine ⟨by show 2 ≤ sizeLine; rw [sizeLine_eq]; omega, [key, x'], .cons ?_ (.cons r2 .nil), _, e3, rfl, 0, rfl⟩
      have r1 : x.2.1 = k' := r1
      rw [r1]
      exact optV_rel e2)
  have I2 : Inv X pins σ (upd (updAll H ((as.zip kvs).map fun p => (p.1, HO.tup [optV p.2.1, p.2.2]))) h'.objs.size (.tup (as.map V.ref))) { s with heap := h'.push { cls := .type "tuple", data := .seq (as.map Value.ref).toArray }, toks := tk } :=
    I1.laid (t' := tk) (fun b o e => Heap.get?_push_of_some _ e) (Nat.le_refl _) (show ObjOk X.prog X.w _ _ _ (.tup (as.map V.ref)) from ⟨by rw [List.length_map, hlk]; exact z, as.map Value.ref, vals_refs as, IsTup.new _ _⟩)
  have hfr := I1.hok.fresh (Nat.le_refl _)
  have keepsAll : ∀ b o, H b = some o → updAll H ((as.zip kvs).map fun p => (p.1, HO.tup [optV p.2.1, p.2.2])) b = some o := fun b o e => by
    rw [updAll_out fun p hp e2 => ?_]
    · exact e
    · have h1 : p.1 ∈ as := by rw [← enames]; exact List.mem_map.mpr ⟨p, hp, rfl⟩
      exact absurd (e2 ▸ hG.above _ h1) (Nat.not_lt_of_lt (I.hok b o e).lt)
  have nt : ∀ b o, updAll H ((as.zip kvs).map fun p => (p.1, HO.tup [optV p.2.1, p.2.2])) b = some o → b ≠ h'.objs.size := fun b o e e2 => by rw [e2, hfr] at e; cases e
  refine ⟨.ref h'.objs.size, _, I2, rfl, q _ _ as (fun b o e => by rw [upd_ne (nt b o (keepsAll b o e))]; exact keepsAll b o e) ?_ upd_same ⟨hlk, fun i c k y e1 e2 => ?_⟩⟩
  · cases e : H h'.objs.size with
    | none => rfl
    | some o => exact absurd rfl (nt _ o (keepsAll _ o e))
  · have hm := updAll_mem (H := H) hnd (p := (c, HO.tup [optV k, y])) (List.mem_map.mpr ⟨(c, k, y), List.mem_of_getElem? (List.getElem?_zip_eq_some.mpr ⟨e1, e2⟩), rfl⟩)
    rw [upd_ne (nt c _ hm)]
    exact hm
end L2

set_option Elab.async false
set_option linter.all false
set_option maxRecDepth 100000
set_option maxHeartbeats 4000000
/-! enumerate of a tuple, walked. -/
namespace L3
open PySem PySem.Spec PyProof.Rows L2
section
variable {prog : Program} {w : World} {A : Around} {E : Value → Shared → Prop} {s : Shared} {z c t : Addr} {xs : Array Value} {S : Nat → Heap → Prop} {k : Nat}
end
section
variable {X : Cx} {es : List Expr} {x1 : Nat} {tpos : Pos}
end
end L3

set_option Elab.async false
set_option linter.all false
set_option maxRecDepth 100000
set_option maxHeartbeats 4000000
/-! AN APPARATUS as a text: joins by any text, a comprehension over pairs. -/
namespace Vm
open PySem PySem.Spec PyProof.Rows L2 L3
theorem str_ext2 {a b : Str} (h : a.cps.toList = b.cps.toList) : a = b := by rw [← str_mk a, ← str_mk b, h]
theorem app_assoc (a b c : Str) : a ++ b ++ c = a ++ (b ++ c) := str_ext2 (by rw [app_list, app_list, app_list, app_list, List.append_assoc])
theorem tjoin (sep : Str) (ws : List Str) : Txt.join sep ws = Str.join sep ws := by
  show Builtin.Str.glued sep ws = _
  exact StrLaws.glued_eq_join ..
theorem join_snoc (sep : Str) (z : Str) : ∀ {ws : List Str}, ws ≠ [] → Str.join sep (ws ++ [z]) = Str.join sep ws ++ sep ++ z
  | [], h => absurd rfl h
  | [y], _ => rfl
  | y :: x :: r, _ => by
    show y ++ sep ++ Str.join sep ((x :: r) ++ [z]) = (y ++ sep ++ Str.join sep (x :: r)) ++ sep ++ z
    rw [join_snoc sep z (ws := x :: r) (by simp)]
    simp only [app_assoc]
theorem join_len (sep : Str) : ∀ ws : List Str, (Str.join sep ws).length ≤ (ws.map (·.length)).sum + ws.length * sep.length
  | [] => Nat.zero_le _
  | [z] => by
    show z.length ≤ _
    simp
  | z :: y :: r => by
    have ih := join_len sep (y :: r)
    show (z ++ sep ++ Str.join sep (y :: r)).length ≤ _
    rw [app_len, app_len, List.map_cons, List.sum_cons, List.length_cons, Nat.succ_mul]
    omega
theorem sum_le {ws : List Str} {b : Nat} (h : ∀ z ∈ ws, z.length ≤ b) : (ws.map (·.length)).sum ≤ ws.length * b := by
  induction ws with
  | nil => simp
  | cons z r ih =>
    have := ih fun y hy => h y (List.mem_cons_of_mem _ hy)
    have := h z (List.mem_cons_self ..)
    rw [List.map_cons, List.sum_cons, List.length_cons, Nat.succ_mul]
    omega
theorem join_le {sep : Str} {ws : List Str} {b : Nat} (h : ∀ z ∈ ws, z.length ≤ b) : (Str.join sep ws).length ≤ ws.length * b + ws.length * sep.length := by
  have := join_len sep ws
  have := sum_le h
  omega
theorem numS_le {m k : Nat} (h : m < 10 ^ (k + 1)) : (numS ((m : Nat) : Int)).length ≤ k + 1 := by
  rw [← clen, numS_list, List.length_map]
  exact digits_le k m h
/-- a comprehension over pairs, whose items leave the heap as it is -/
theorem comp_pair {α : Type} {K : PySem.W.Frag} {J : It} {H : Hp} {as : List α} {v : α → V} {x y : α → V} (e : α → V) {te : TE} {Q : VK} {rest : L2.St} (S : Src J H (as.map v)) (hz : as.length ≤ sizeLine)
    (hp : ∀ a ∈ as, ∃ p, v a = .ref p ∧ SqT K H p [x a, y a]) (he : ∀ a ∈ as, ∀ k : VK, k (e a) H → te (some (x a) :: some (y a) :: rest) H k)
    (hq : ∀ D, H D = none → Q (.ref D) (upd H D (.lst (as.map e)))) : wComp J (gTup K 2 (gCons (gName 0) (gCons (gName 1) gNil))) tYes te Q (none :: none :: rest) H := by
  refine ⟨fun i m σ acc H' => H' = H ∧ i ≤ as.length ∧ m = as.length - i ∧ acc = (as.take i).map e ∧ ∃ o1 o2, σ = o1 :: o2 :: rest, ⟨as.length, rfl, Nat.zero_le _, rfl, by simp, none, none, rfl⟩, ?_⟩
  rintro i m σ acc H' ⟨rfl, hi, rfl, rfl, o1, o2, rfl⟩
  have hacc : ((as.take i).map e).length ≤ i := by
    rw [List.length_map, List.length_take]; exact Nat.min_le_left _ _
  by_cases hlt : i < as.length
  · refine .inr ⟨S.go i (by rw [List.length_map]; exact hlt), fun w H1 yl => ?_⟩
    obtain ⟨rfl, hx⟩ := S.yld i w H1 (by rw [List.length_map]; exact hlt) yl
    rw [List.getElem?_map, List.getElem?_eq_getElem hlt] at hx
    have hx' : v as[i] = w := Option.some.inj hx
    subst hx'
    have hm : as[i] ∈ as := List.getElem_mem hlt
    obtain ⟨p, ep, hpp⟩ := hp _ hm
    have ts : as.take (i + 1) = as.take i ++ [as[i]] := List.take_succ_eq_append_getElem hlt
    refine ⟨p, _, ep, hpp, rfl, _, _, rfl, _, _, rfl, rfl, ?_⟩
    show te (some (x as[i]) :: some (y as[i]) :: rest) H1 _
    refine he _ hm _ ⟨by omega, as.length - (i + 1), by omega, rfl, hlt, rfl, ?_, _, _, rfl⟩
    rw [ts, List.map_append]
    rfl
  · have ei : i = as.length := by omega
    subst ei
    refine .inl ⟨S.stop _ (by rw [List.length_map]; exact Nat.le_refl _), by omega, fun D hD => ?_⟩
    rw [List.take_length]
    exact hq D hD
/-! ### readings and notes, and their texts -/
def Ent (v : V) : Prop := v = .non ∨ ∃ z, Good z ∧ v = .str z
/-- columns as they lie there -/
def ColsAt (H : Hp) (cs : List (Addr × List V)) (m : Nat) : Prop := ∀ x ∈ cs, H x.1 = some (.tup x.2) ∧ x.2.length = m ∧ ∀ e ∈ x.2, Ent e
theorem ColsAt.mono {H H' : Hp} {cs : List (Addr × List V)} {m : Nat} (S : Same H H') (h : ColsAt H cs m) : ColsAt H' cs m := fun x hx => ⟨S _ _ (h x hx).1, (h x hx).2⟩
def entS : V → Str
  | .str z => z
  | _ => Str.ofString "-"
theorem ent_len {v : V} (h : Ent v) : (entS v).length ≤ 12 := by
  rcases h with rfl | ⟨z, hz, rfl⟩
  · show (Str.ofString "-").length ≤ 12; decide +kernel
  · exact hz.hi
theorem ent_flat {v : V} (h : Ent v) : flatV v = true := by
  rcases h with rfl | ⟨z, hz, rfl⟩ <;> rfl
theorem ent_scal {v u : V} (h : Ent v) (h2 : Ent u) : scal v u = true := by
  rcases h with rfl | ⟨z, hz, rfl⟩ <;> rcases h2 with rfl | ⟨y, hy, rfl⟩ <;> rfl
abbrev Rdg := V × List Nat
def natV (n : Nat) : V := .int ((n : Nat) : Int)
def rdgS (x : Rdg) : Str := entS x.1 ++ Str.ofString " " ++ Str.join (Str.ofString ",") (x.2.map fun n => numS ((n : Nat) : Int))
def RdgOk (x : Rdg) : Prop := Ent x.1 ∧ x.2.length ≤ 30 ∧ ∀ n ∈ x.2, n < 30
def RdgAt (H : Hp) (t : Addr) (x : Rdg) : Prop := RdgOk x ∧ ∃ r, H t = some (.tup [x.1, .ref r]) ∧ H r = some (.tup (x.2.map natV))
theorem RdgAt.mono {H H' : Hp} {t : Addr} {x : Rdg} (S : Same H H') (h : RdgAt H t x) : RdgAt H' t x := by
  obtain ⟨ho, r, h1, h2⟩ := h
  exact ⟨ho, r, S _ _ h1, S _ _ h2⟩
theorem rows_len {x : Rdg} (h : RdgOk x) : (Str.join (Str.ofString ",") (x.2.map fun n => numS ((n : Nat) : Int))).length ≤ 100 := by
  have h1 := join_le (sep := Str.ofString ",") (ws := x.2.map fun n => numS ((n : Nat) : Int)) (b := 2) fun z hz => by
    obtain ⟨n, hn, rfl⟩ := List.mem_map.mp hz
    exact numS_le (k := 1) (by have := h.2.2 n hn; omega)
  have h2 : (Str.ofString ",").length = 1 := by decide +kernel
  rw [h2, List.length_map] at h1
  have := h.2.1
  omega
theorem rdg_len {x : Rdg} (h : RdgOk x) : (rdgS x).length ≤ 113 := by
  have h1 := rows_len h
  have h2 : (Str.ofString " ").length = 1 := by decide +kernel
  have h3 := ent_len h.1
  unfold rdgS
  rw [app_len, app_len, h2]
  omega
abbrev Note := Nat × List (Addr × Rdg)
def noteS (x : Note) : Str := numS ((x.1 : Nat) : Int) ++ Str.ofString ": " ++ Str.join (Str.ofString "; ") (x.2.map fun y => rdgS y.2)
def NoteAt (H : Hp) (t : Addr) (x : Note) : Prop := x.1 < 10000 ∧ x.2.length ≤ 30 ∧ (∀ y ∈ x.2, RdgAt H y.1 y.2) ∧ ∃ q, H t = some (.tup [natV x.1, .ref q]) ∧ H q = some (.tup (x.2.map fun y => V.ref y.1))
theorem NoteAt.mono {H H' : Hp} {t : Addr} {x : Note} (S : Same H H') (h : NoteAt H t x) : NoteAt H' t x := by
  obtain ⟨h1, h2, h3, q, h4, h5⟩ := h
  exact ⟨h1, h2, fun y hy => (h3 y hy).mono S, q, S _ _ h4, S _ _ h5⟩
theorem rdgs_len {xs : List (Addr × Rdg)} (h : ∀ y ∈ xs, RdgOk y.2) (hn : xs.length ≤ 30) : (Str.join (Str.ofString "; ") (xs.map fun y => rdgS y.2)).length ≤ 3450 := by
  have h1 := join_le (sep := Str.ofString "; ") (ws := xs.map fun y => rdgS y.2) (b := 113) fun z hz => by
    obtain ⟨y, hy, rfl⟩ := List.mem_map.mp hz
    exact rdg_len (h y hy)
  have h2 : (Str.ofString "; ").length = 2 := by decide +kernel
  rw [h2, List.length_map] at h1
  omega
theorem note_len {H : Hp} {t : Addr} {x : Note} (h : NoteAt H t x) : (noteS x).length ≤ 3500 := by
  have h1 := rdgs_len (xs := x.2) (fun y hy => (h.2.2.1 y hy).1) h.2.1
  have h2 : (Str.ofString ": ").length = 2 := by decide +kernel
  have h3 := numS_le (m := x.1) (k := 3) (by have := h.1; omega)
  unfold noteS
  rw [app_len, app_len, h2]
  omega
def headS (es : List V) : Str := Str.join (Str.ofString " | ") (es.map entS)
theorem head_len {es : List V} (h : ∀ e ∈ es, Ent e) : (headS es).length ≤ 15 * es.length := by
  have h1 := join_le (sep := Str.ofString " | ") (ws := es.map entS) (b := 12) fun z hz => by
    obtain ⟨e, he, rfl⟩ := List.mem_map.mp hz
    exact ent_len (h e he)
  have h2 : (Str.ofString " | ").length = 3 := by decide +kernel
  rw [h2, List.length_map] at h1
  unfold headS
  omega
def appS (es : List V) (ns : List (Addr × Note)) : Str := Str.join (Str.ofString "\n") (headS es :: ns.map fun y => noteS y.2)
end Vm

set_option Elab.async false
set_option linter.all false
set_option maxRecDepth 100000
set_option maxHeartbeats 4000000
/-! min(xs, default=0) of a list of ints. -/
namespace Vm
open PySem PySem.Spec PyProof.Rows L2 L3
section
variable {X : Cx}
end
end Vm

set_option Elab.async false
set_option linter.all false
set_option maxRecDepth 100000
set_option maxHeartbeats 4000000
/-! Words laid by steps: an entry for each word of the base, words for each gap. -/
namespace L3
open PySem PySem.Spec PyProof.Rows L2
/-- t + u of two tuples that lie in the heap -/
theorem op_catH {X : Cx} : OpR X (binaryOp .Add) (fun x y H Q => ∃ (a b : Addr) (xs ys : List V), x = .ref a ∧ y = .ref b ∧ H a = some (.tup xs) ∧ H b = some (.tup ys) ∧ xs.length + ys.length ≤ sizeLine ∧ ∀ (r : Addr) (H2 : Hp), Same H H2 → H2 r = some (.tup (xs ++ ys)) → Q (.ref r) H2) := by
  intro pins s σ H x y v u Q I rx ry h
  obtain ⟨a, b, xs, ys, rfl, rfl, ha0, hb0, hz, q⟩ := h
  have ha : SqT X.K H a xs := SqT.of ha0
  have hb : SqT X.K H b ys := SqT.of hb0
  by_cases hx : xs = []
  · cases rx; cases ry
    obtain ⟨its, r1, p1, _⟩ := I.tuple ha
    obtain ⟨its2, r2, p2, _⟩ := I.tuple hb
    have hv : its = [] := r1.nil_iff.mpr hx
    obtain ⟨⟨c1, dd1, data1, sl1⟩, o1, hc1, n1, hd1⟩ := id p1
    obtain ⟨⟨c2, dd2, data2, sl2⟩, o2, hc2, n2, hd2⟩ := id p2
    simp only at hc1 hd1 hc2 hd2
    subst hc1 hd1 hc2 hd2
    exact concat_meets ⟨_, o1, rfl⟩ ⟨_, o2, rfl⟩ noFill_tuple_add seq_tuple_add PySem.F.slot_tuple_add PySem.F.entry_tuple_add (PySem.F.args_tuple_add_2 _ _) (tuple_addW0 a b its.toArray its2.toArray n1 n2 dd1 dd2 sl1 sl2 (by simp [hv])) ⟨o1, o2, ⟨.ref b, H, I, rfl, q b H (Same.refl H) (by rw [hx]; exact hb0)⟩⟩
  · exact op_catT pins s σ H _ _ v u Q I rx ry ⟨a, b, xs, ys, rfl, rfl, ha, hb, hx, hz, fun e => q a H (Same.refl H) (by rw [e, List.append_nil]; exact ha0), fun _ p hp => q p _ (same_upd hp) upd_same⟩
end L3
namespace Vm
open PySem PySem.Spec PyProof.Rows L2 L3
end Vm

set_option Elab.async false
set_option linter.all false
set_option maxRecDepth 100000
set_option maxHeartbeats 4000000
/-! The notes of columns: readings with their rows. -/
namespace L3
open PySem PySem.Spec PyProof.Rows L2
end L3
namespace Vm
open PySem PySem.Spec PyProof.Rows L2 L3
def entStep (e0 : V) (us : List V) (x : V) : List V := if x = e0 then us else if x ∈ us then us else us ++ [x]
def entTo (es : List V) (i : Nat) : List V := (es.take i).foldl (entStep (es.getD 0 .non)) []
def rowsTo (es : List V) (x : V) (n : Nat) : List Nat := (List.range n).filter fun k => decide (es.getD k .non = x)
def rdgsOf (es : List V) : List Rdg := (entTo es es.length).map fun x => (x, rowsTo es x es.length)
theorem entTo_step {es : List V} {i : Nat} {x : V} (h : es[i]? = some x) : entTo es (i + 1) = entStep (es.getD 0 .non) (entTo es i) x := by
  unfold entTo
  rw [List.take_add_one, h, List.foldl_append]
  rfl
theorem rowsTo_step (es : List V) (x : V) (n : Nat) : rowsTo es x (n + 1) = rowsTo es x n ++ (if es.getD n .non = x then [n] else []) := by
  unfold rowsTo
  rw [List.range_succ, List.filter_append]
  by_cases h : es.getD n .non = x
  · rw [if_pos h, List.filter_cons_of_pos (by exact decide_eq_true h)]
    rfl
  · rw [if_neg h, List.filter_cons_of_neg (by rw [decide_eq_false h]; exact Bool.false_ne_true)]
    rfl
theorem rowsTo_len (es : List V) (x : V) (n : Nat) : (rowsTo es x n).length ≤ n := by
  unfold rowsTo
  exact Nat.le_trans (List.length_filter_le _ _) (by rw [List.length_range]; exact Nat.le_refl _)
theorem rowsTo_lt {es : List V} {x : V} {n k : Nat} (h : k ∈ rowsTo es x n) : k < n := List.mem_range.mp (List.mem_filter.mp h).1
theorem entStep_mem {e0 x y : V} {us : List V} (h : y ∈ entStep e0 us x) : y ∈ us ∨ y = x ∧ x ≠ e0 := by
  unfold entStep at h
  split at h
  · exact .inl h
  · rename_i h1
    split at h
    · exact .inl h
    · rcases List.mem_append.mp h with h | h
      · exact .inl h
      · exact .inr ⟨List.mem_singleton.mp h, h1⟩
theorem entTo_mem {es : List V} {y : V} : ∀ i : Nat, y ∈ entTo es i → y ∈ es ∧ y ≠ es.getD 0 .non
  | 0, h => nomatch h
  | i + 1, h => by
    cases e : es[i]? with
    | none =>
      have : entTo es (i + 1) = entTo es i := by unfold entTo; rw [List.take_add_one, e]; simp
      rw [this] at h
      exact entTo_mem i h
    | some x =>
      rw [entTo_step e] at h
      rcases entStep_mem h with h | ⟨rfl, h⟩
      · exact entTo_mem i h
      · exact ⟨List.mem_of_getElem? e, h⟩
theorem entStep_len {e0 x : V} {us : List V} : (entStep e0 us x).length ≤ us.length + 1 := by
  unfold entStep
  split
  · omega
  · split
    · omega
    · rw [List.length_append]; exact Nat.le_refl _
theorem entTo_len (es : List V) : ∀ i : Nat, (entTo es i).length ≤ i
  | 0 => Nat.le_refl _
  | i + 1 => by
    have := entTo_len es i
    cases e : es[i]? with
    | none =>
      have h : entTo es (i + 1) = entTo es i := by unfold entTo; rw [List.take_add_one, e]; simp
      rw [h]; omega
    | some x =>
      rw [entTo_step e]
      have := entStep_len (e0 := es.getD 0 .non) (x := x) (us := entTo es i)
      omega
/-- an entry that was not met yet has no rows yet -/
theorem rows_none {es : List V} {x : V} : ∀ i : Nat, i ≤ es.length → x ∉ entTo es i → x ≠ es.getD 0 .non → rowsTo es x i = []
  | 0, _, _, _ => rfl
  | i + 1, hi, h, h0 => by
    have e := List.getElem?_eq_getElem (l := es) (i := i) (by omega)
    rw [entTo_step e] at h
    have h1 : x ∉ entTo es i := fun z => h (by
      unfold entStep
      split
      · exact z
      · split
        · exact z
        · exact List.mem_append_left _ z)
    have h2 : es.getD i .non ≠ x := fun z => h (by
      have ez : es[i] = x := by rw [← z, List.getD_eq_getElem?_getD, e]; rfl
      rw [ez]
      unfold entStep
      rw [if_neg h0, if_neg h1]
      exact List.mem_append_right _ (List.mem_singleton.mpr rfl))
    rw [rowsTo_step, if_neg h2, rows_none i (by omega) h1 h0]
    rfl
theorem rdgs_ok {es : List V} (hE : ∀ e ∈ es, Ent e) (hl : es.length ≤ 30) {x : V} (hx : x ∈ entTo es es.length) : RdgOk (x, rowsTo es x es.length) :=
  ⟨hE x (entTo_mem _ hx).1, by have := rowsTo_len es x es.length; show (rowsTo es x es.length).length ≤ 30; omega, fun n hn => by have := rowsTo_lt (show n ∈ rowsTo es x es.length from hn); omega⟩
/-- the pure notes of columns -/
def notesTo (cs : List (List V)) (n : Nat) : List (Nat × List Rdg) := ((List.range n).map fun i => (i, rdgsOf (cs.getD i []))).filter fun p => !p.2.isEmpty
theorem notesTo_step (cs : List (List V)) (n : Nat) : notesTo cs (n + 1) = notesTo cs n ++ (if rdgsOf (cs.getD n []) = [] then [] else [(n, rdgsOf (cs.getD n []))]) := by
  unfold notesTo
  rw [List.range_succ, List.map_append, List.filter_append]
  cases h : rdgsOf (cs.getD n []) with
  | nil =>
    rw [if_pos rfl, List.map_cons, List.filter_cons_of_neg (by rw [h]; exact Bool.false_ne_true)]
    rfl
  | cons a r =>
    rw [if_neg (fun z => nomatch z), List.map_cons, List.filter_cons_of_pos (by rw [h]; rfl), h]
    rfl
/-- what a note tells, without the places where it lies -/
def toldN (y : Note) : Nat × List Rdg := (y.1, y.2.map fun z => z.2)
/-! keys -/
def vKey : V → Option Str
  | .str z => some z
  | _ => none
theorem vKey_ent {x : V} (h : Ent x) : L2.optV (vKey x) = x := by
  rcases h with rfl | ⟨z, _, rfl⟩ <;> rfl
theorem vKey_inj {x y : V} (h : Ent x) (h2 : Ent y) (e : vKey x = vKey y) : x = y := by rw [← vKey_ent h, ← vKey_ent h2, e]
def dnOf (ps : List (V × Addr)) : List (Option Str × V) := ps.map fun q => (vKey q.1, V.ref q.2)
theorem dn_none {ps : List (V × Addr)} {x : V} (hp : ∀ q ∈ ps, Ent q.1) (hx : Ent x) (h : x ∉ ps.map (·.1)) : valV (dnOf ps) (vKey x) = none := by
  induction ps with
  | nil => rfl
  | cons q r ih =>
    rw [List.map_cons, List.mem_cons, not_or] at h
    show valV ((vKey q.1, V.ref q.2) :: dnOf r) (vKey x) = none
    rw [valV_neg (fun e => h.1 (vKey_inj hx (hp q List.mem_cons_self) e.symm))]
    exact ih (fun q hq => hp q (List.mem_cons_of_mem _ hq)) h.2
theorem dn_some {ps : List (V × Addr)} {x : V} (hp : ∀ q ∈ ps, Ent q.1) (hx : Ent x) (h : x ∈ ps.map (·.1)) : ∃ a, (x, a) ∈ ps ∧ valV (dnOf ps) (vKey x) = some (.ref a) := by
  induction ps with
  | nil => cases h
  | cons q r ih =>
    by_cases c : x = q.1
    · refine ⟨q.2, by rw [c]; exact List.mem_cons_self, ?_⟩
      show valV ((vKey q.1, V.ref q.2) :: dnOf r) (vKey x) = _
      rw [valV_pos (by rw [c])]
    · rw [List.map_cons, List.mem_cons] at h
      obtain ⟨a, ha, e⟩ := ih (fun q hq => hp q (List.mem_cons_of_mem _ hq)) (h.resolve_left c)
      refine ⟨a, List.mem_cons_of_mem _ ha, ?_⟩
      show valV ((vKey q.1, V.ref q.2) :: dnOf r) (vKey x) = _
      rw [valV_neg (fun e => c (vKey_inj hx (hp q List.mem_cons_self) e.symm))]
      exact e
theorem dn_put {ps : List (V × Addr)} {x : V} {a : Addr} (hp : ∀ q ∈ ps, Ent q.1) (hx : Ent x) (h : x ∈ ps.map (·.1)) : putK (dnOf ps) (vKey x) (.ref a) = dnOf (ps.map fun q => if q.1 = x then (q.1, a) else q) := by
  obtain ⟨b, _, e⟩ := dn_some hp hx h
  unfold putK
  rw [if_pos (by rw [valV_any, e]; rfl)]
  unfold dnOf
  rw [List.map_map, List.map_map]
  refine List.map_congr_left fun q hq => ?_
  show (if vKey q.1 = vKey x then (vKey q.1, V.ref a) else (vKey q.1, V.ref q.2)) = (vKey (if q.1 = x then (q.1, a) else q).1, V.ref (if q.1 = x then (q.1, a) else q).2)
  by_cases c : q.1 = x
  · rw [if_pos (by rw [c]), if_pos c]
  · rw [if_neg (fun e => c (vKey_inj (hp q hq) hx e)), if_neg c]
theorem dn_new {ps : List (V × Addr)} {x : V} {a : Addr} (hp : ∀ q ∈ ps, Ent q.1) (hx : Ent x) (h : x ∉ ps.map (·.1)) : putK (dnOf ps) (vKey x) (.ref a) = dnOf (ps ++ [(x, a)]) := by
  rw [putK_new _ (dn_none hp hx h)]
  unfold dnOf
  rw [List.map_append]
  rfl
theorem zip_fst {α β γ : Type} (f : α → γ) : ∀ (as : List α) (bs : List β), as.length = bs.length → List.zipWith (fun a _ => f a) as bs = as.map f
  | [], [], _ => rfl
  | a :: r, b :: t, h => by
    show f a :: _ = f a :: _
    rw [zip_fst f r t (Nat.succ.inj h)]
theorem zip_snd {α β γ : Type} (f : β → γ) : ∀ (as : List α) (bs : List β), as.length = bs.length → List.zipWith (fun _ b => f b) as bs = bs.map f
  | [], [], _ => rfl
  | a :: r, b :: t, h => by
    show f b :: _ = f b :: _
    rw [zip_snd f r t (Nat.succ.inj h)]
end Vm

set_option Elab.async false
set_option linter.all false
set_option maxRecDepth 100000
set_option maxHeartbeats 4000000
/-! enumerate of a list, walked. -/
namespace L3
open PySem PySem.Spec PyProof.Rows L2
/-- a list's items with their places -/
def Iel (K : PySem.W.Frag) (t : Addr) : It := ⟨fun i H => ∃ xs a, SqL K H t xs ∧ xs[i]? = some a,
  fun i H x H' => ∃ T a, x = .ref T ∧ H T = none ∧ H' = upd H T (.tup [.int ((i : Nat) : Int), a]) ∧ ∀ xs, SqL K H t xs → xs[i]? = some a,
  fun i H => ∃ xs, SqL K H t xs ∧ xs.length ≤ i⟩
theorem turn_enumL {P : Program} {w : World} {K : PySem.W.Frag} {es : List Expr} {x1 : Nat} {tpos : Pos} {z c t : Addr} (n1 : c ≠ z) :
    Turn P w K (.Tuple es x1 tpos) (Iel K t) [z, c] z (fun i h => (∃ old, IsEnum h z c ((i : Nat) : Int) old) ∧ h.IsListIter c t i) where
  mem := by simp
  obj := fun i h st b hb => by
    obtain ⟨⟨old, q1⟩, ⟨o1, e1, _, d1⟩⟩ := st
    simp only [List.mem_cons, List.not_mem_nil, or_false] at hb
    rcases hb with rfl | rfl
    · exact ⟨_, q1, fun v u => nomatch u⟩
    · exact ⟨_, e1, fun v u => by rw [d1] at u; cases u⟩
  keep := fun i h h' st kp => by
    obtain ⟨⟨old, q1⟩, q4⟩ := st
    exact ⟨⟨old, kp z (by simp) _ q1⟩, q4.at fun o e => kp c (by simp) o e⟩
  item := by
    intro X hP hw hK hc i pins s σ H E I hf st hg
    subst hP hw hK
    obtain ⟨⟨old, q1⟩, q4⟩ := st
    obtain ⟨xs, a, hx, ex⟩ := hg
    obtain ⟨us, ru, pu, zu⟩ := I.list hx
    obtain ⟨u, eu, ra⟩ := ru.get ex
    refine wpAny_pyNext_enum_item q1 q4 pu.isList (x := u) (by simpa using eu) n1.symm fun g g1 g3 g5 _ kp => ⟨_, rfl, ?_⟩
    refine wpAny_letOwnedTupleGo_enum (s := { s with heap := g, toks := s.toks + 1 }) g1 fun h2 hz2 sb => ?_
    have lt : ∀ {b o}, s.heap.get? b = some o → s.heap.objs.size ≠ b := fun e => Nat.ne_of_gt (Heap.lt_size e)
    have kp2 : ∀ b o, b ∉ [z, c] → s.heap.get? b = some o → h2.get? b = some o := fun b o n e => by
      simp only [List.mem_cons, List.not_mem_nil, or_false, not_or] at n
      exact sb.extBut _ _ n.1 (kp b o n.1 n.2 e)
    have I1 : Inv X pins σ H { s with heap := h2, toks := s.toks + 1 } := turnedL (t' := s.toks + 1) I kp2 hf
    have T2 : h2.get? s.heap.objs.size = some { cls := .type "tuple", data := .seq #[.int i s.toks, u] } := sb.extBut _ _ (lt q1) g5
    have hN : H s.heap.objs.size = none := I.hok.fresh (Nat.le_refl _)
    have I2 : Inv X pins σ (upd H s.heap.objs.size (.tup [.int ((i : Nat) : Int), a])) { s with heap := h2, toks := s.toks + 1 } := inv_track I1 (Heap.get?_none_of_le I.sz) (Nat.ne_of_gt I.lt)
      (fun y b ec => by obtain ⟨_, o, ho, _⟩ := I.cell y b ec; exact Ne.symm (lt ho)) (fun p hp => Ne.symm (lt (I.pin p hp).1)) hN
      ⟨few (by show 2 ≤ _; omega), [.int i s.toks, u], .cons ⟨_, rfl⟩ (.cons ra .nil), ⟨_, T2, rfl, 0, rfl⟩⟩
    refine ⟨.ref s.heap.objs.size, _, I2, rfl, ⟨_, a, rfl, hN, rfl, fun xs' hx' => by rw [I.list_inj hx' hx]; exact ex⟩, ⟨⟨u, ?_⟩, ?_⟩, fun b hb => ?_⟩
    · have e : ((i + 1 : Nat) : Int) = (i : Int) + 1 := by omega
      rw [e]; exact hz2
    · exact g3.extBut sb.extBut n1
    · have ne : b ≠ s.heap.objs.size := by
        simp only [List.mem_cons, List.not_mem_nil, or_false] at hb
        obtain ⟨o1, e1, _⟩ := q4
        rcases hb with rfl | rfl
        · exact Ne.symm (lt q1)
        · exact Ne.symm (lt e1)
      rw [upd_ne ne]; exact (hf b hb).1
  done := by
    intro X hP hw hK hc i pins s σ H E I hf st hg
    subst hP hw hK
    obtain ⟨⟨old, q1⟩, q4⟩ := st
    obtain ⟨xs, hx, he⟩ := hg
    obtain ⟨us, ru, pu, zu⟩ := I.list hx
    have l1 := ru.length
    refine wpAny_pyNext_enum_end (I.ok.hd hc) q1 q4 pu.isList (by simp; omega) fun g kp => ⟨rfl, turnedL (t' := s.toks) I (fun b o n e => ?_) hf⟩
    simp only [List.mem_cons, List.not_mem_nil, or_false, not_or] at n
    exact kp b o n.2 e
  self := fun _ _ _ _ _ st h => by
    obtain ⟨⟨old, q1⟩, _⟩ := st
    exact wpAny_pyIter_enum q1 h
section
variable {X : Cx} {es : List Expr} {x1 : Nat} {tpos : Pos}
def iEnumL (K : PySem.W.Frag) (ta : TA) : TI := fun σ H R => ta σ H fun vs H1 => ∃ t : Addr, vs = [.ref t] ∧ (∃ xs, SqL K H1 t xs) ∧ R (Iel K t) H1
theorem pi_enumL {a : Expr} {ta : TA} {p pos : Pos} (hg : Gl X "enumerate") (hm : X.mg "enumerate" = none) (ha : PA X [a] ta) (hs : starEach [a] X.env = [(false, eval a X.env)] := by rfl) :
    PI X (.Tuple es x1 tpos) (.Call (.Name "enumerate" p) [a] [] pos) (iEnumL X.K ta) := by
  intro pins s σ H R I h
  refine Call_ (ld_blt I hg hm PyProof.Rows.boot_enumerate (PyProof.Rows.callWith_type1 (thn (ha pos pins s σ H _ I h) fun us s1 ⟨vs, H1, I1, r1, q1⟩ => ?_) (by rw [hs]; rfl) (by rfl)))
  obtain ⟨t, e, ⟨xs, hx⟩, q⟩ := q1
  subst e
  obtain ⟨u1, rfl, r1'⟩ := r1.one
  cases r1'
  obtain ⟨us, ru, pu, zu⟩ := I1.list hx
  refine call_enumerate_list pu.isList fun g g1 g4 _ kp => ?_
  refine wpAny_pyIter_enum (s := { s1 with heap := g }) g1 ?_
  refine ⟨_, _, _, Iel X.K t, H1, rfl, I1.kept (t' := s1.toks) kp, turn_enumL (Nat.ne_of_lt (Nat.lt_succ_self _)), ⟨⟨_, g1⟩, g4⟩, fun b hb => ?_, q⟩
  have hb' : s1.heap.objs.size ≤ b := by
    simp only [List.mem_cons, List.not_mem_nil, or_false] at hb
    rcases hb with rfl | rfl
    · exact Nat.le_add_right _ _
    · exact Nat.le_refl _
  have I2 : Inv X _ σ H1 _ := I1.kept (t' := s1.toks) kp
  exact I1.fpOk hb' (I1.hok.fresh hb')
end
/-- over a list's items with their places; the pair of each turn is new -/
theorem for_enumL {K : PySem.W.Frag} {a : Addr} {xs : List V} {g : TG} {tb : TS} {D : Ends} {σ : L2.St} {H : Hp} (Pv : Nat → L2.St → Hp → Prop) (h0 : Pv 0 σ H) (hl : ∀ i σ H, i ≤ xs.length → Pv i σ H → SqL K H a xs)
    (hs : ∀ i x σ H T, xs[i]? = some x → Pv i σ H → H T = none → g (.ref T) σ (upd H T (.tup [.int ((i : Nat) : Int), x])) fun σ2 H2 => tb { D with nx := Pv (i + 1), ct := Pv (i + 1), bk := D.nx } σ2 H2) (hd : ∀ σ H, Pv xs.length σ H → D.nx σ H) :
    ∃ W : Nat → Nat → L2.St → Hp → Prop, (∃ m, W 0 m σ H) ∧ ∀ i m σ H, W i m σ H →
      ((Iel K a).stop i H ∧ D.nx σ H) ∨ ((Iel K a).go i H ∧ ∃ N : L2.St → Hp → Prop, (∀ σ' H', N σ' H' → ∃ m', m' < m ∧ W (i + 1) m' σ' H') ∧ ∀ x H', (Iel K a).yld i H x H' → g x σ H' fun σ2 H2 => tb { D with nx := N, ct := N, bk := D.nx } σ2 H2) := by
  refine ⟨fun i m σ H => m = xs.length - i ∧ i ≤ xs.length ∧ Pv i σ H, ⟨xs.length, by simp, Nat.zero_le _, h0⟩, ?_⟩
  rintro i m σ H ⟨rfl, hi, p⟩
  have q := hl i σ H hi p
  rcases Nat.lt_or_ge i xs.length with hlt | hge
  · refine .inr ⟨⟨xs, xs[i], q, by simp [hlt]⟩, Pv (i + 1), fun σ' H' p' => ⟨xs.length - (i + 1), by omega, rfl, hlt, p'⟩, ?_⟩
    rintro x H' ⟨T, a', rfl, hT, rfl, hx⟩
    exact hs i a' σ H T (hx xs q) p hT
  · have e : i = xs.length := by omega
    subst e
    exact .inl ⟨⟨xs, q, Nat.le_refl _⟩, hd σ H p⟩
end L3

set_option Elab.async false
set_option linter.all false
set_option maxRecDepth 100000
set_option maxHeartbeats 4000000
/-! (v,) * n -/
namespace L3
open PySem PySem.Spec PyProof.Rows L2
open AutoSeq1 (wpAny_loadPart')
theorem noFill_tuple_mul : fillsNumberSlot (.type "tuple") "mul" = pure false :=
  PySem.fillsNumberSlot_seq (id := "tuple.__mul__") (r := some (.builtin "tuple.__rmul__")) F.slot_tuple_mul.lookup (by decide +kernel) F.slot_tuple_rmul.lookup (by decide +kernel)
theorem repeat_tuple : seqRepeat? (.type "tuple") = pure (some (.builtin "tuple.__mul__")) := by
  unfold seqRepeat?
  rw [PySem.seqSlot_of (T := "tuple") (name := "__mul__") (id := "tuple.__mul__") F.slot_tuple_mul.lookup (by decide +kernel), PySem.seqSlot_of (T := "tuple") (name := "__rmul__") (id := "tuple.__rmul__") F.slot_tuple_rmul.lookup (by decide +kernel)]
  rfl
theorem rmul_int_tuple (a : Int) (t : Tok) (l : Addr) (o : Obj) (its : Array Value) (k : Nat) (hc : o.cls = .type "tuple") (hd : o.data = .seq its k) :
    Meets (Builtin.«int.__rmul__» ⟨[.int a t, .ref l], []⟩) (fun _ R s => s.heap.get? l = some o ∧ R (.ok (.ret Value.notImplemented)) s) :=
  .of_wp fun prog w A R s h => by
    obtain ⟨hp, g, d, tk, os⟩ := s
    obtain ⟨hl, h⟩ := h
    obtain ⟨oc, od, oda, osl⟩ := o
    cases hc
    cases hd
    have hT : Shared.TypeIs ⟨hp, g, d, tk, os⟩ (.ref l) "tuple" := ⟨_, hl, rfl⟩
    wp_walk using wpAny_loadPart' hl, wpAny_typeOf hT
    exact ⟨_, rfl, h⟩
theorem tuple_mul_new (l : Addr) (o : Obj) (u : Value) (k n : Nat) (t : Tok) (hc : o.cls = .type "tuple") (hd : o.data = .seq #[u] k) (hn : n ≤ 100000) (h1 : n ≠ 1) :
    Meets (Builtin.«tuple.__mul__» ⟨[.ref l, .int (n : Int) t], []⟩) (fun _ R s => s.heap.get? l = some o ∧ R (.ok (.ret (.ref s.heap.objs.size))) { s with heap := s.heap.push { cls := .type "tuple", data := .seq (List.replicate n u).toArray } }) :=
  .of_wp fun prog w A R s h => by
    obtain ⟨hp, g, d, tk, os⟩ := s
    obtain ⟨hl, h⟩ := h
    have hT : Shared.TypeIs ⟨hp, g, d, tk, os⟩ (.ref l) "tuple" := ⟨o, hl, hc⟩
    have e1 : (decide ((n : Int) < -(2 ^ 63)) || decide ((n : Int) ≥ 2 ^ 63)) = false := by
      rw [decide_eq_false (by omega), decide_eq_false (by omega)]; rfl
    wp_walk using wpAny_loadPart' hl, wpAny_typeOf hT
    rw [if_neg (by rw [e1]; exact Bool.false_ne_true)]
    obtain ⟨oc, od, oda, osl⟩ := o
    cases hc
    cases hd
    wp_walk using wpAny_loadPart' hl, wpAny_typeOf hT
    have e2 : (#[u].isEmpty || ((n : Int) == 1)) = false := by
      have : ((n : Int) == 1) = false := beq_eq_false_iff_ne.mpr (by omega)
      rw [this]
      rfl
    rw [if_neg (by rw [e2]; exact Bool.false_ne_true)]
    show wpAny _ _ (if (decide ((n : Int) ≤ 0) || #[u].isEmpty) = true then _ else _) _ _ _
    by_cases h0 : n = 0
    · subst h0
      rw [if_pos (by rfl)]
      unfold Builtin.Tuple.tupleExact
      refine wpAny_bind (wpAny_newObj_type ?_ (by show 0 ≤ sizeLine; exact Nat.zero_le _))
      exact wpAny_pure ⟨_, rfl, h⟩
    · have e3 : (decide ((n : Int) ≤ 0) || #[u].isEmpty) = false := by rw [decide_eq_false (by omega)]; rfl
      rw [if_neg (by rw [e3]; exact Bool.false_ne_true)]
      show wpAny _ _ (if ((#[u].size : Nat) : Int) * (n : Int) > (2 ^ 63 - 1) / 8 then _ else _) _ _ _
      have e4 : ((#[u].size : Nat) : Int) * (n : Int) = (n : Int) := by show (1 : Int) * _ = _; omega
      rw [if_neg (by rw [e4]; omega)]
      show wpAny _ _ (if Builtin.Tuple.tupleTooMany (((#[u].size : Nat) : Int) * (n : Int)) = true then _ else _) _ _ _
      have e5 : Builtin.Tuple.tupleTooMany (((#[u].size : Nat) : Int) * (n : Int)) = false := by
        rw [e4]
        unfold Builtin.Tuple.tupleTooMany
        exact decide_eq_false (by unfold sizeLine; omega)
      rw [if_neg (by rw [e5]; exact Bool.false_ne_true)]
      show wpAny _ _ (Builtin.Tuple.tupleExact (List.foldl (fun x1 x2 => x1 ++ x2) #[] (List.replicate ((n : Int)).toNat #[u])) >>= fun v => ret v) _ _ _
      rw [Int.toNat_natCast, rep_fold]
      have e6 : (#[] ++ (List.replicate n u).toArray : Array Value) = (List.replicate n u).toArray := by simp
      rw [e6]
      unfold Builtin.Tuple.tupleExact
      refine wpAny_bind (wpAny_newObj_type ?_ (by show (List.replicate n u).toArray.size ≤ sizeLine; rw [List.size_toArray, List.length_replicate]; unfold sizeLine; omega))
      exact wpAny_pure ⟨_, rfl, h⟩
theorem tuple_mul_one (l : Addr) (o : Obj) (u : Value) (k : Nat) (t : Tok) (hc : o.cls = .type "tuple") (hd : o.data = .seq #[u] k) :
    Meets (Builtin.«tuple.__mul__» ⟨[.ref l, .int 1 t], []⟩) (fun _ R s => s.heap.get? l = some o ∧ R (.ok (.ret (.ref l))) s) :=
  .of_wp fun prog w A R s h => by
    obtain ⟨hp, g, d, tk, os⟩ := s
    obtain ⟨hl, h⟩ := h
    obtain ⟨oc, od, oda, osl⟩ := o
    cases hc
    cases hd
    have hT : Shared.TypeIs ⟨hp, g, d, tk, os⟩ (.ref l) "tuple" := ⟨_, hl, rfl⟩
    wp_walk using wpAny_loadPart' hl, wpAny_typeOf hT
    exact ⟨_, rfl, h⟩
section
variable {X : Cx}
/-- (v,) * n -/
theorem op_mulT : OpR X (binaryOp .Mult) (fun x y H Q => ∃ (a : Addr) (v : V) (n : Nat), x = .ref a ∧ y = .int ((n : Nat) : Int) ∧ H a = some (.tup [v]) ∧ n ≤ 100000 ∧ ∀ (r : Addr) (H2 : Hp), Same H H2 → H2 r = some (.tup (List.replicate n v)) → Q (.ref r) H2) := by
  intro pins s σ H x y w u Q I rx ry h
  obtain ⟨a, v, n, rfl, rfl, hH, hn, q⟩ := h
  obtain rfl : w = Value.ref a := rx
  obtain ⟨t, rfl⟩ := ry
  obtain ⟨hz, its, r, o, ho, hc, k, hd⟩ := I.hok a _ hH
  obtain ⟨u, rfl, ru⟩ := vals1 r
  have isT : s.TypeIs (.ref a) "tuple" := ⟨o, ho, hc⟩
  refine wpAny_binaryOp_repeat_ref (by decide : (Value.type "tuple" == Value.type "int") = false) isT (fun s' => typeIs_int s' _ t) noFill_tuple_mul F.fills_int_mul F.slot_int_rmul repeat_tuple F.slot_int_index.lookup ?_
  refine call_meets F.slot_int_rmul (typeIs_int s _ t) F.entry_int_rmul (F.args_int_rmul_2 _ _) (rmul_int_tuple _ t a o _ k hc hd) ?_
  refine ⟨ho, rfl, isT, ?_⟩
  by_cases h1 : n = 1
  · subst h1
    exact call_meets F.slot_tuple_mul isT F.entry_tuple_mul (F.args_tuple_mul_2 _ _) (tuple_mul_one a o u k t hc hd) ⟨ho, .ref a, H, I, rfl, q a H (fun _ _ e => e) hH⟩
  · refine call_meets F.slot_tuple_mul isT F.entry_tuple_mul (F.args_tuple_mul_2 _ _) (tuple_mul_new a o u k n t hc hd hn h1) ⟨ho, .ref s.heap.objs.size, upd H s.heap.objs.size (.tup (List.replicate n v)), ?_, rfl, ?_⟩
    · refine I.laid (t' := s.toks) (fun b u e => Heap.get?_push_of_some _ e) (Nat.le_refl _) ?_
      exact ⟨by rw [List.length_replicate]; show n ≤ sizeLine; unfold sizeLine; omega, List.replicate n u, vals_rep ru n, IsTup.new _ _⟩
    · exact q _ _ (same_upd (I.hok.fresh (Nat.le_refl _))) upd_same
end
end L3

set_option Elab.async false
set_option linter.all false
set_option maxRecDepth 100000
set_option maxHeartbeats 4000000
/-! Columns made again of their notes. -/
namespace Vm
open PySem PySem.Spec PyProof.Rows L2 L3
theorem eqL_refl {xs : List V} (h : xs.all flatV = true) : eqL xs xs = true := by
  induction xs with
  | nil => rfl
  | cons x r ih =>
    rw [List.all_cons, Bool.and_eq_true] at h
    show (eqV x x && eqL r r) = true
    rw [ih h.2, Bool.and_true]
    cases x with
    | non => rfl
    | bl b => cases b <;> rfl
    | int i => exact decide_eq_true rfl
    | str z => exact decide_eq_true rfl
    | _ => cases h.1
/-- a column whose rows in S are there already -/
def colF (es : List V) (e0 : V) (S : Nat → Bool) (m : Nat) : List V := (List.range m).map fun r => if S r = true then es.getD r .non else e0
theorem colF_len (es : List V) (e0 : V) (S : Nat → Bool) (m : Nat) : (colF es e0 S m).length = m := by unfold colF; rw [List.length_map, List.length_range]
theorem colF_at {es : List V} {e0 : V} {S : Nat → Bool} {m r : Nat} (h : r < m) : (colF es e0 S m)[r]? = some (if S r = true then es.getD r .non else e0) := by
  unfold colF
  rw [List.getElem?_map, List.getElem?_range h]
  rfl
theorem colF_none (es : List V) (e0 : V) (m : Nat) : colF es e0 (fun _ => false) m = List.replicate m e0 := by
  unfold colF
  rw [List.eq_replicate_iff]
  refine ⟨by rw [List.length_map, List.length_range], fun x hx => ?_⟩
  obtain ⟨r, _, rfl⟩ := List.mem_map.mp hx
  rfl
theorem colF_set {es : List V} {e0 x : V} {S : Nat → Bool} {m k : Nat} (hk : k < m) (hx : es.getD k .non = x) : (colF es e0 S m).set k x = colF es e0 (fun r => S r || r == k) m := by
  apply List.ext_getElem?
  intro r
  by_cases hr : r < m
  · rw [colF_at hr, List.getElem?_set]
    by_cases c : k = r
    · subst c
      rw [if_pos rfl, if_pos (by rw [colF_len]; exact hk)]
      have : (S k || k == k) = true := by rw [beq_self_eq_true, Bool.or_true]
      rw [if_pos this, hx]
    · have : (S r || r == k) = S r := by rw [beq_eq_false_iff_ne.mpr (Ne.symm c), Bool.or_false]
      rw [if_neg c, colF_at hr, this]
  · rw [List.getElem?_eq_none (by rw [List.length_set, colF_len]; omega), List.getElem?_eq_none (by rw [colF_len]; omega)]
theorem entStep_keep {e0 x y : V} {us : List V} (h : y ∈ us) : y ∈ entStep e0 us x := by
  unfold entStep
  split
  · exact h
  · split
    · exact h
    · exact List.mem_append_left _ h
theorem ent_all {es : List V} : ∀ i : Nat, i ≤ es.length → ∀ r, r < i → es.getD r .non = es.getD 0 .non ∨ es.getD r .non ∈ entTo es i
  | 0, _, r, h => absurd h (Nat.not_lt_zero _)
  | i + 1, hi, r, h => by
    have e := List.getElem?_eq_getElem (l := es) (i := i) (by omega)
    rw [entTo_step e]
    by_cases c : r = i
    · subst c
      have eg : es.getD r .non = es[r] := by rw [List.getD_eq_getElem?_getD, e]; rfl
      rw [eg]
      by_cases c0 : es[r] = es.getD 0 .non
      · exact .inl c0
      · refine .inr ?_
        unfold entStep
        rw [if_neg c0]
        split
        · assumption
        · exact List.mem_append_right _ (List.mem_singleton.mpr rfl)
    · rcases ent_all (es := es) i (by omega) r (by omega) with h | h
      · exact .inl h
      · exact .inr (entStep_keep h)
theorem colF_done {es : List V} {S : Nat → Bool} (h : ∀ r, r < es.length → (S r = true ↔ es.getD r .non ∈ entTo es es.length)) : colF es (es.getD 0 .non) S es.length = es := by
  apply List.ext_getElem?
  intro r
  by_cases hr : r < es.length
  · rw [colF_at hr]
    have eg : es[r]? = some (es.getD r .non) := by rw [List.getD_eq_getElem?_getD, List.getElem?_eq_getElem hr]; rfl
    rw [eg]
    by_cases c : S r = true
    · rw [if_pos c]
    · rw [if_neg c]
      rcases ent_all (es := es) es.length (Nat.le_refl _) r hr with h1 | h1
      · rw [h1]
      · exact absurd ((h r hr).mpr h1) c
  · rw [List.getElem?_eq_none (by rw [colF_len]; omega), List.getElem?_eq_none (by omega)]
theorem rowsTo_mem {es : List V} {x : V} {n r : Nat} : r ∈ rowsTo es x n ↔ r < n ∧ es.getD r .non = x := by
  unfold rowsTo
  rw [List.mem_filter, List.mem_range, decide_eq_true_iff]
theorem const_of {es : List V} (h : rdgsOf es = []) : es = List.replicate es.length (es.getD 0 .non) := by
  have h0 : entTo es es.length = [] := List.map_eq_nil_iff.mp h
  rw [List.eq_replicate_iff]
  refine ⟨rfl, fun x hx => ?_⟩
  obtain ⟨r, hr, rfl⟩ := List.mem_iff_getElem.mp hx
  rcases ent_all (es := es) es.length (Nat.le_refl _) r hr with h1 | h1
  · rw [← h1, List.getD_eq_getElem?_getD, List.getElem?_eq_getElem hr]
    rfl
  · rw [h0] at h1
    cases h1
/-- the pure notes: in order, of columns that are there, with their readings -/
theorem notes_sorted (cs : List (List V)) (n : Nat) : (notesTo cs n).Pairwise fun p q => p.1 < q.1 := by
  unfold notesTo
  refine List.Pairwise.filter _ ?_
  rw [List.pairwise_map]
  exact List.pairwise_lt_range
theorem notes_mem {cs : List (List V)} {n : Nat} {p : Nat × List Rdg} (h : p ∈ notesTo cs n) : p.1 < n ∧ p.2 = rdgsOf (cs.getD p.1 []) ∧ p.2 ≠ [] := by
  unfold notesTo at h
  obtain ⟨h1, h2⟩ := List.mem_filter.mp h
  obtain ⟨i, hi, rfl⟩ := List.mem_map.mp h1
  refine ⟨List.mem_range.mp hi, rfl, fun z => ?_⟩
  have h2 : (!(rdgsOf (cs.getD i [])).isEmpty) = true := h2
  rw [show rdgsOf (cs.getD i []) = [] from z] at h2
  cases h2
theorem notes_all {cs : List (List V)} {n i : Nat} (hi : i < n) (h : rdgsOf (cs.getD i []) ≠ []) : (i, rdgsOf (cs.getD i [])) ∈ notesTo cs n := by
  unfold notesTo
  refine List.mem_filter.mpr ⟨List.mem_map.mpr ⟨i, List.mem_range.mpr hi, rfl⟩, ?_⟩
  cases e : rdgsOf (cs.getD i []) with
  | nil => exact absurd e h
  | cons a r => rfl
end Vm

set_option Elab.async false
set_option linter.all false
set_option maxRecDepth 100000
set_option maxHeartbeats 4000000
/-! SPLIT by any separator with a sign that stands once in it and in no piece. -/
namespace L3
open PySem PySem.Spec PyProof.Rows L2
open Builtin Builtin.Str
section
variable {X : Cx}
def rSplitB : V → List V → Hp → VK → Prop := fun x vs H Q => ∃ z y, x = .str z ∧ vs = [.str y] ∧ 1 ≤ y.length ∧ z.length ≤ 10000000 ∧ ∀ p, H p = none → Q (.ref p) (upd H p (.lst ((Txt.split z y).map V.str)))
theorem mt_splitB : MtR X "str.split" rSplitB := by
  intro pins s σ H x xs v us Q I rx rv h
  obtain ⟨z, y, rfl, rfl, hy, hz, q⟩ := h
  obtain ⟨t, rfl⟩ := rx
  obtain ⟨u, rfl, ru⟩ := rv.one
  obtain ⟨t', rfl⟩ := ru
  have hs := szl
  have hy' : (y.length == 0) = false := by
    rw [beq_eq_false_iff_ne]; omega
  have hlen := PyProof.Rows.split_le z y
  have fin : ∀ (l : List (Str × Tok)) (k : Nat), l.map (·.1) = Txt.split z y → EP X pins σ Q (.ref s.heap.objs.size) { s with heap := s.heap.push { cls := .type "list", data := .seq (strValues l).toArray }, toks := k } := fun l k e => by
    have hv : Vals ((Txt.split z y).map V.str) (strValues l) := by rw [← e]; exact vals_values l
    exact ⟨.ref _, _, I.lnew (t' := k) hv (by rw [List.length_map]; omega), rfl, q _ I.fresh⟩
  have hn : (partsBetween z (occurrences z y 0 z.length (z.length + 1)) y.length).length ≤ sizeLine := by
    have h1 := StrLaws.occ_length_le z y 0 z.length (z.length + 1)
    unfold partsBetween
    simp only [List.length_map, List.length_zip, List.length_cons, List.length_append, List.length_singleton]
    omega
  cases h1 : (decide (z.length < y.length) || decide (strKind z < strKind y))
  · cases hf : (occurrences z y 0 z.length (z.length + 1)).isEmpty
    · refine call_meets F.slot_str_split (typeIs_str _ _ _) F.entry_str_split (F.args_str_split_2 _ _) (meets_str_split_sep z y t t' h1 hy' hf (by omega) hn) ?_
      show EP X pins σ Q (.ref s.heap.objs.size) { s with toks := _, heap := s.heap.push { cls := .type "list", data := .seq (strsFrom s.toks (partsBetween z (occurrences z y 0 z.length (z.length + 1)) y.length)).toArray } }
      rw [strsFrom_eq]
      exact fin (numbered s.toks _) _ ((numbered_texts _ _).trans ((if_neg (ne_true_of_eq_false h1)).trans (if_neg (ne_true_of_eq_false hf))).symm)
    · refine call_meets F.slot_str_split (typeIs_str _ _ _) F.entry_str_split (F.args_str_split_2 _ _) (meets_str_split_not_found z y t t' h1 hy' hf) ?_
      exact fin [(z, t)] s.toks ((if_neg (ne_true_of_eq_false h1)).trans (if_pos hf)).symm
  · refine call_meets F.slot_str_split (typeIs_str _ _ _) F.entry_str_split (F.args_str_split_2 _ _) (meets_str_split_cannot_occur z y t t' h1) ?_
    exact fin [(z, t)] s.toks (if_pos h1).symm
end
end L3
namespace Vm
open PySem PySem.Spec PyProof.Rows L2 L3
section
open PySem.StrLaws Builtin Builtin.Str
/-- a separator, and the sign in it that marks it -/
structure Sep (y : Str) (u : List Nat) (c : Nat) (t : List Nat) : Prop where
  e : y.cps.toList = u ++ c :: t
  hu : c ∉ u
  ht : c ∉ t
  kd : Builtin.Str.strKind y = 1
theorem Sep.len {y : Str} {u t : List Nat} {c : Nat} (S : Sep y u c t) : y.length = u.length + (t.length + 1) := by
  rw [← clen, S.e, List.length_append, List.length_cons]
def joinS (s : List Nat) : List (List Nat) → List Nat
  | [] => []
  | [l] => l
  | l :: m :: r => l ++ (s ++ joinS s (m :: r))
def cutsS (d : Nat) : Nat → List (List Nat) → List Nat
  | _, [] => []
  | _, [_] => []
  | a, l :: m :: r => (a + l.length) :: cutsS d (a + l.length + d) (m :: r)
def atS (x y : Str) (i : Nat) : Bool := decide (i + y.length ≤ x.length) && subAt x y i
theorem atS_get {x y : Str} {u t : List Nat} {c : Nat} (S : Sep y u c t) {i : Nat} (h : atS x y i = true) : x.cps.toList[i + u.length]? = some c := by
  unfold atS at h
  have h := (Bool.and_eq_true_iff.mp h).2
  rw [subAt_eq, beq_iff_eq] at h
  have h0 : ((x.cps.toList.drop i).take y.length)[u.length]? = some c := by rw [h, S.e, List.getElem?_append_right (Nat.le_refl _), Nat.sub_self]; rfl
  rw [List.getElem?_take, if_pos (by rw [S.len]; omega), List.getElem?_drop] at h0
  exact h0
theorem atS_of {x y : Str} {pre r : List Nat} (h : x.cps.toList = pre ++ (y.cps.toList ++ r)) : atS x y pre.length = true := by
  unfold atS
  rw [Bool.and_eq_true_iff, subAt_eq, decide_eq_true_iff, beq_iff_eq]
  constructor
  · rw [← clen x, h, List.length_append, List.length_append, clen]
    omega
  · rw [h, List.drop_left, ← clen y, List.take_left]
/-- no mark in a piece, nor in the signs ahead of the mark behind it -/
theorem join_mark {s u t : List Nat} {c : Nat} (hs : s = u ++ c :: t) (hu : c ∉ u) : ∀ (l : List Nat) (r : List (List Nat)), c ∉ l → ∀ o, o < l.length + u.length → (joinS s (l :: r))[o]? ≠ some c
  | l, [], hl, o, _, h => hl (List.mem_of_getElem? h)
  | l, m :: r, hl, o, ho, h => by
    have ej : joinS s (l :: m :: r) = l ++ (u ++ (c :: t ++ joinS s (m :: r))) := by
      show l ++ (s ++ joinS s (m :: r)) = _
      rw [hs, List.append_assoc]
    rw [ej] at h
    by_cases h1 : o < l.length
    · rw [List.getElem?_append_left h1] at h
      exact hl (List.mem_of_getElem? h)
    · rw [List.getElem?_append_right (by omega), List.getElem?_append_left (by omega)] at h
      exact hu (List.mem_of_getElem? h)
theorem occS {x y : Str} (lim : Nat) (hx : ∀ i, atS x y i = true → ∀ j, i < j → j < i + y.length → atS x y j = false) : ∀ (n a : Nat) (arr : Array Nat) (free : Nat), (∀ j, a ≤ j → j < free → atS x y j = false) → arr.size + n ≤ lim →
    (forIn (List.range' a n) (arr, free) (occBody x y x.length lim)).run.fst.toList = arr.toList ++ (List.range' a n).filter (atS x y)
  | 0, a, arr, free, _, _ => by simp
  | n + 1, a, arr, free, hf, hl => by
    rw [List.range'_succ, List.forIn_cons]
    unfold occBody
    cases ha : atS x y a with
    | true =>
      have hf' : free ≤ a := by
        rcases Nat.lt_or_ge a free with z | z
        · have := hf a (Nat.le_refl _) z
          rw [ha] at this
          cases this
        · exact z
      have h2 := Bool.and_eq_true_iff.mp ha
      have h3 := of_decide_eq_true h2.1
      rw [if_pos ⟨⟨⟨by show arr.size < lim; omega, hf'⟩, h3⟩, h2.2⟩, List.filter_cons_of_pos ha]
      have ih := occS lim hx n (a + 1) (arr.push a) (a + y.length) (fun j h1 h2 => hx a ha j (by omega) h2) (by rw [Array.size_push]; omega)
      unfold occBody at ih
      refine Eq.trans ih ?_
      rw [Array.toList_push, List.append_assoc]
      rfl
    | false =>
      rw [if_neg ?_, List.filter_cons_of_neg (by rw [ha]; exact Bool.false_ne_true)]
      · have ih := occS lim hx n (a + 1) arr free (fun j h1 h2 => hf j (by omega) h2) (by omega)
        unfold occBody at ih
        exact ih
      · rintro ⟨⟨_, h1⟩, h2⟩
        have : atS x y a = true := Bool.and_eq_true_iff.mpr ⟨decide_eq_true h1, h2⟩
        rw [ha] at this
        exact Bool.false_ne_true this
theorem cutsS_filter {x y : Str} {u t : List Nat} {c : Nat} (S : Sep y u c t) : ∀ (ls : List (List Nat)) (pre : List Nat), ls ≠ [] → (∀ l ∈ ls, c ∉ l) → x.cps.toList = pre ++ joinS y.cps.toList ls →
    (List.range' pre.length (x.length + 1 - pre.length)).filter (atS x y) = cutsS y.length pre.length ls ∧ ∀ i, pre.length ≤ i → atS x y i = true → ∀ j, i < j → j < i + y.length → atS x y j = false
  | [], _, h, _, _ => absurd rfl h
  | [l], pre, _, hc, hx => by
    have no : ∀ i, pre.length ≤ i → atS x y i = true → False := fun i hi h => by
      have h1 := atS_get S h
      rw [hx, List.getElem?_append_right (by omega)] at h1
      exact hc l List.mem_cons_self (List.mem_of_getElem? h1)
    refine ⟨?_, fun i hi h => absurd h (fun h => no i hi h)⟩
    show _ = []
    rw [List.filter_eq_nil_iff]
    intro i hi h
    obtain ⟨k, hk, rfl⟩ := List.mem_range'.mp hi
    exact no _ (by omega) h
  | l :: m :: r, pre, _, hc, hx => by
    have hlen : x.length = (pre ++ joinS y.cps.toList (l :: m :: r)).length := by rw [← hx, clen]
    have ej : joinS y.cps.toList (l :: m :: r) = l ++ (y.cps.toList ++ joinS y.cps.toList (m :: r)) := rfl
    have hL := S.len
    rw [ej, List.length_append, List.length_append, List.length_append, clen] at hlen
    have el : (pre ++ l ++ y.cps.toList).length = pre.length + l.length + y.length := by rw [List.length_append, List.length_append, clen]
    have er : x.length + 1 - pre.length = l.length + (y.length + (x.length + 1 - (pre ++ l ++ y.cps.toList).length)) := by
      rw [el]
      omega
    obtain ⟨ih, ihx⟩ := cutsS_filter S (m :: r) (pre ++ l ++ y.cps.toList) (fun e => nomatch e) (fun k hk => hc k (List.mem_cons_of_mem _ hk)) (by rw [hx, ej]; simp only [List.append_assoc])
    have no1 : ∀ o, o < l.length → atS x y (pre.length + o) = false := fun o ho => by
      cases h : atS x y (pre.length + o) with
      | false => rfl
      | true =>
        have h1 := atS_get S h
        rw [hx, List.getElem?_append_right (by omega)] at h1
        exact absurd h1 (join_mark S.e S.hu l (m :: r) (hc l List.mem_cons_self) _ (by omega))
    have t1 : atS x y (pre.length + l.length) = true := by
      have := atS_of (x := x) (y := y) (pre := pre ++ l) (r := joinS y.cps.toList (m :: r)) (by rw [hx, ej, List.append_assoc])
      rw [List.length_append] at this
      exact this
    have no2 : ∀ j, pre.length + l.length < j → j < pre.length + l.length + y.length → atS x y j = false := fun j h1 h2 => by
      cases h : atS x y j with
      | false => rfl
      | true =>
        exfalso
        have h3 := atS_get S h
        have e3 : x.cps.toList = (pre ++ l ++ (u ++ [c])) ++ (t ++ joinS y.cps.toList (m :: r)) := by
          rw [hx, ej, S.e]
          simp only [List.append_assoc, List.cons_append, List.nil_append]
        have l3 : (pre ++ l ++ (u ++ [c])).length = pre.length + l.length + u.length + 1 := by simp only [List.length_append, List.length_cons, List.length_nil]; omega
        rw [e3, List.getElem?_append_right (by rw [l3]; omega), l3] at h3
        by_cases h4 : j + u.length - (pre.length + l.length + u.length + 1) < t.length
        · rw [List.getElem?_append_left h4] at h3
          exact S.ht (List.mem_of_getElem? h3)
        · rw [List.getElem?_append_right (by omega)] at h3
          exact join_mark S.e S.hu m r (hc m (List.mem_cons_of_mem _ List.mem_cons_self)) _ (by omega) h3
    refine ⟨?_, fun i hi h j h1 h2 => ?_⟩
    · rw [er, ← List.range'_append_1, List.filter_append, ← List.range'_append_1, List.filter_append, ← el, ih, el]
      have f1 : (List.range' pre.length l.length).filter (atS x y) = [] := by
        rw [List.filter_eq_nil_iff]
        intro i hi h
        obtain ⟨k, hk, rfl⟩ := List.mem_range'.mp hi
        rw [Nat.one_mul, no1 k hk] at h
        cases h
      have f2 : (List.range' (pre.length + l.length) y.length).filter (atS x y) = [pre.length + l.length] := by
        rw [show y.length = (y.length - 1) + 1 from by omega, List.range'_succ, List.filter_cons_of_pos t1]
        congr 1
        rw [List.filter_eq_nil_iff]
        intro i hi h
        obtain ⟨k, hk, rfl⟩ := List.mem_range'.mp hi
        rw [no2 _ (by omega) (by omega)] at h
        cases h
      rw [f1, f2]
      rfl
    · by_cases h3 : i < pre.length + l.length
      · have := no1 (i - pre.length) (by omega)
        rw [show pre.length + (i - pre.length) = i from by omega, h] at this
        cases this
      · by_cases h4 : i < pre.length + l.length + y.length
        · have ei : i = pre.length + l.length := by
            rcases Nat.lt_or_ge (pre.length + l.length) i with z | z
            · have := no2 i z h4
              rw [h] at this
              cases this
            · omega
          subst ei
          exact no2 j h1 h2
        · exact ihx i (by rw [el]; omega) h j h1 h2
theorem parts_S (x : Str) (y : Str) : ∀ (ls : List (List Nat)) (pre : List Nat), ls ≠ [] → x.cps.toList = pre ++ joinS y.cps.toList ls → partsFrom x y.length pre.length (cutsS y.length pre.length ls) = ls.map mkS
  | [], _, h, _ => absurd rfl h
  | [l], pre, _, hx => by
    show [strSub x pre.length x.length] = [mkS l]
    congr 1
    apply Str.ext'
    apply Array.toList_inj.mp
    rw [strSub_toList, mkS_list, hx, List.drop_left]
    exact List.take_of_length_le (by
      have hlen : x.length = (pre ++ l).length := by rw [← clen x, hx]; rfl
      rw [hlen, List.length_append]
      show l.length ≤ _
      omega)
  | l :: m :: r, pre, _, hx => by
    have ej : joinS y.cps.toList (l :: m :: r) = l ++ (y.cps.toList ++ joinS y.cps.toList (m :: r)) := rfl
    have ih := parts_S x y (m :: r) (pre ++ l ++ y.cps.toList) (fun e => nomatch e) (by rw [hx, ej]; simp only [List.append_assoc])
    have el : (pre ++ l ++ y.cps.toList).length = pre.length + l.length + y.length := by rw [List.length_append, List.length_append, clen]
    rw [el] at ih
    show strSub x pre.length (pre.length + l.length) :: partsFrom x y.length (pre.length + l.length + y.length) (cutsS y.length (pre.length + l.length + y.length) (m :: r)) = _
    rw [ih, List.map_cons]
    congr 1
    apply Str.ext'
    apply Array.toList_inj.mp
    rw [strSub_toList, mkS_list, hx, List.drop_left, ej, Nat.add_sub_cancel_left, List.take_left]
theorem split_S {x y : Str} {u t : List Nat} {c : Nat} (S : Sep y u c t) {ls : List (List Nat)} (hn : ls ≠ []) (hc : ∀ l ∈ ls, c ∉ l) (hx : x.cps.toList = joinS y.cps.toList ls) : Txt.split x y = ls.map mkS := by
  obtain ⟨f, g⟩ := cutsS_filter S ls [] hn hc hx
  have ho : occurrences x y 0 x.length (x.length + 1) = cutsS y.length 0 ls := by
    rw [occ_eq]
    have := occS (x := x) (y := y) (x.length + 1) (fun i h => g i (Nat.zero_le _) h) (x.length + 1) 0 #[] 0 (fun j _ h => absurd h (Nat.not_lt_zero _)) (by simp)
    rw [show x.length + 1 - 0 = x.length + 1 from rfl, this]
    rw [show (#[] : Array Nat).toList = [] from rfl, List.nil_append]
    exact f
  have hp := parts_S x y ls [] hn hx
  have one : ∀ l, ls = [l] → [x] = ls.map mkS := fun l e => by
    rw [e, List.map_cons, List.map_nil]
    congr 1
    apply Str.ext'
    apply Array.toList_inj.mp
    rw [mkS_list, hx, e]; rfl
  unfold Txt.split
  rw [S.kd]
  have h2 : decide (Builtin.Str.strKind x < 1) = false := decide_eq_false (by have := kind_pos x; omega)
  rw [h2, Bool.or_false]
  cases ls with
  | nil => exact absurd rfl hn
  | cons l r =>
    cases r with
    | nil =>
      by_cases h1 : decide (x.length < y.length) = true
      · rw [if_pos h1]; exact one l rfl
      · rw [if_neg h1, ho, if_pos (show (cutsS y.length 0 [l]).isEmpty = true from rfl)]; exact one l rfl
    | cons m r =>
      have hlen : x.length = (joinS y.cps.toList (l :: m :: r)).length := by rw [← hx, clen]
      have ej : joinS y.cps.toList (l :: m :: r) = l ++ (y.cps.toList ++ joinS y.cps.toList (m :: r)) := rfl
      rw [ej, List.length_append, List.length_append, clen] at hlen
      rw [if_neg (fun h => by have := of_decide_eq_true h; omega), ho, if_neg (by intro h; cases h), partsBetween_eq]
      exact hp
theorem sjoin_S (y : Str) : ∀ ws : List Str, (Str.join y ws).cps.toList = joinS y.cps.toList (ws.map fun z => z.cps.toList)
  | [] => rfl
  | [z] => rfl
  | z :: w :: r => by
    have ih := sjoin_S y (w :: r)
    show (z ++ y ++ Str.join y (w :: r)).cps.toList = z.cps.toList ++ (y.cps.toList ++ joinS y.cps.toList ((w :: r).map fun z => z.cps.toList))
    rw [← ih, app_list, app_list, List.append_assoc]
theorem split_join_S {y : Str} {u t : List Nat} {c : Nat} (S : Sep y u c t) {ws : List Str} (hn : ws ≠ []) (hc : ∀ z ∈ ws, c ∉ z.cps.toList) : Txt.split (Str.join y ws) y = ws := by
  rw [split_S S (ls := ws.map fun z => z.cps.toList) (fun e => hn (List.map_eq_nil_iff.mp e)) (fun l hl => ?_) (sjoin_S y ws), List.map_map]
  · have : (mkS ∘ fun z : Str => z.cps.toList) = _root_.id := by funext z; exact str_mk z
    rw [this, List.map_id]
  · obtain ⟨z, hz, rfl⟩ := List.mem_map.mp hl
    exact hc z hz
/-- two parts -/
theorem split_pair {y : Str} {u t : List Nat} {c : Nat} (S : Sep y u c t) {a b : Str} (ha : c ∉ a.cps.toList) (hb : c ∉ b.cps.toList) : Txt.split (a ++ y ++ b) y = [a, b] := by
  refine split_join_S S (ws := [a, b]) (fun e => nomatch e) fun z hz => ?_
  rcases List.mem_cons.mp hz with rfl | hz
  · exact ha
  · rw [List.mem_singleton.mp hz]; exact hb
theorem sep_bar : Sep (Str.ofString " | ") [32] 124 [32] := ⟨by decide +kernel, by decide, by decide, by decide +kernel⟩
theorem sep_nl : Sep (Str.ofString "\n") [] 10 [] := ⟨by decide +kernel, by decide, by decide, by decide +kernel⟩
theorem sep_colon : Sep (Str.ofString ": ") [] 58 [32] := ⟨by decide +kernel, by decide, by decide, by decide +kernel⟩
theorem sep_semi : Sep (Str.ofString "; ") [] 59 [32] := ⟨by decide +kernel, by decide, by decide, by decide +kernel⟩
theorem sep_sp : Sep (Str.ofString " ") [] 32 [] := ⟨by decide +kernel, by decide, by decide, by decide +kernel⟩
theorem sep_comma : Sep (Str.ofString ",") [] 44 [] := ⟨by decide +kernel, by decide, by decide, by decide +kernel⟩
/-! ### which signs stand in the texts of an apparatus -/
theorem mem_join {y : Str} {c : Nat} : ∀ {ws : List Str}, c ∈ (Str.join y ws).cps.toList → c ∈ y.cps.toList ∨ ∃ z ∈ ws, c ∈ z.cps.toList
  | [], h => nomatch h
  | [z], h => .inr ⟨z, List.mem_cons_self, h⟩
  | z :: w :: r, h => by
    have h : c ∈ (z ++ y ++ Str.join y (w :: r)).cps.toList := h
    rw [app_list, app_list, List.mem_append, List.mem_append] at h
    rcases h with (h | h) | h
    · exact .inr ⟨z, List.mem_cons_self, h⟩
    · exact .inl h
    · rcases mem_join h with h | ⟨v, hv, h⟩
      · exact .inl h
      · exact .inr ⟨v, List.mem_cons_of_mem _ hv, h⟩
theorem ent_signs {v : V} (h : Ent v) {c : Nat} (hc : c ∈ (entS v).cps.toList) : c = 45 ∨ (97 ≤ c ∧ c ≤ 122) := by
  rcases h with rfl | ⟨z, hz, rfl⟩
  · have e : (entS .non).cps.toList = [45] := by decide +kernel
    rw [e] at hc
    exact .inl (List.mem_singleton.mp hc)
  · have := hz.al c hc
    unfold Al at this
    exact .inr (by omega)
theorem rows_signs {ns : List Nat} {c : Nat} (hc : c ∈ (Str.join (Str.ofString ",") (ns.map fun n => numS ((n : Nat) : Int))).cps.toList) : c = 44 ∨ (48 ≤ c ∧ c ≤ 57) := by
  rcases mem_join hc with h | ⟨z, hz, h⟩
  · rw [sep_comma.e] at h
    exact .inl (List.mem_singleton.mp h)
  · obtain ⟨n, _, rfl⟩ := List.mem_map.mp hz
    have := numS_digits n c h
    exact .inr (by omega)
theorem rdg_signs {x : Rdg} (h : RdgOk x) {c : Nat} (hc : c ∈ (rdgS x).cps.toList) : c = 32 ∨ c = 44 ∨ c = 45 ∨ (48 ≤ c ∧ c ≤ 57) ∨ (97 ≤ c ∧ c ≤ 122) := by
  unfold rdgS at hc
  rw [app_list, app_list, List.mem_append, List.mem_append, sep_sp.e] at hc
  rcases hc with (h1 | h1) | h1
  · have := ent_signs h.1 h1
    omega
  · have : c = 32 := List.mem_singleton.mp h1
    omega
  · have := rows_signs h1
    omega
theorem rdgs_signs {xs : List (Addr × Rdg)} (h : ∀ y ∈ xs, RdgOk y.2) {c : Nat} (hc : c ∈ (Str.join (Str.ofString "; ") (xs.map fun y => rdgS y.2)).cps.toList) : c = 59 ∨ c = 32 ∨ c = 44 ∨ c = 45 ∨ (48 ≤ c ∧ c ≤ 57) ∨ (97 ≤ c ∧ c ≤ 122) := by
  rcases mem_join hc with h1 | ⟨z, hz, h1⟩
  · rw [sep_semi.e] at h1
    rcases List.mem_cons.mp h1 with h1 | h1
    · exact .inl h1
    · exact .inr (.inl (List.mem_singleton.mp h1))
  · obtain ⟨y, hy, rfl⟩ := List.mem_map.mp hz
    exact .inr (rdg_signs (h y hy) h1)
theorem note_signs {x : Note} (h : ∀ y ∈ x.2, RdgOk y.2) {c : Nat} (hc : c ∈ (noteS x).cps.toList) : c ≠ 10 := by
  unfold noteS at hc
  rw [app_list, app_list, List.mem_append, List.mem_append, sep_colon.e] at hc
  rcases hc with (h1 | h1) | h1
  · have := numS_digits x.1 c h1
    omega
  · rcases List.mem_cons.mp h1 with h1 | h1
    · omega
    · have := List.mem_singleton.mp h1; omega
  · have := rdgs_signs h h1
    omega
theorem head_signs {es : List V} (h : ∀ e ∈ es, Ent e) {c : Nat} (hc : c ∈ (headS es).cps.toList) : c ≠ 10 := by
  unfold headS at hc
  rcases mem_join hc with h1 | ⟨z, hz, h1⟩
  · rw [sep_bar.e] at h1
    intro e
    rw [e] at h1
    revert h1
    decide
  · obtain ⟨e, he, rfl⟩ := List.mem_map.mp hz
    have := ent_signs (h e he) h1
    omega
/-! ### the splits -/
theorem cut_app {es : List V} {ns : List (Addr × Note)} (hE : ∀ e ∈ es, Ent e) (hN : ∀ y ∈ ns, ∀ z ∈ y.2.2, RdgOk z.2) : Txt.split (appS es ns) (Str.ofString "\n") = headS es :: ns.map fun y => noteS y.2 := by
  unfold appS
  refine split_join_S sep_nl (fun e => nomatch e) fun z hz h => ?_
  rcases List.mem_cons.mp hz with rfl | hz
  · exact head_signs hE h rfl
  · obtain ⟨y, hy, rfl⟩ := List.mem_map.mp hz
    exact note_signs (hN y hy) h rfl
theorem cut_head {es : List V} (hE : ∀ e ∈ es, Ent e) (hn : es ≠ []) : Txt.split (headS es) (Str.ofString " | ") = es.map entS := by
  unfold headS
  refine split_join_S sep_bar (fun e => hn (List.map_eq_nil_iff.mp e)) fun z hz h => ?_
  obtain ⟨e, he, rfl⟩ := List.mem_map.mp hz
  have := ent_signs (hE e he) h
  omega
theorem cut_note {x : Note} (h : ∀ y ∈ x.2, RdgOk y.2) : Txt.split (noteS x) (Str.ofString ": ") = [numS ((x.1 : Nat) : Int), Str.join (Str.ofString "; ") (x.2.map fun y => rdgS y.2)] := by
  refine split_pair sep_colon (fun hc => ?_) fun hc => ?_
  · have := numS_digits x.1 _ hc
    omega
  · have := rdgs_signs h hc
    omega
theorem cut_rdgs {xs : List (Addr × Rdg)} (h : ∀ y ∈ xs, RdgOk y.2) (hn : xs ≠ []) : Txt.split (Str.join (Str.ofString "; ") (xs.map fun y => rdgS y.2)) (Str.ofString "; ") = xs.map fun y => rdgS y.2 := by
  refine split_join_S sep_semi (fun e => hn (List.map_eq_nil_iff.mp e)) fun z hz hc => ?_
  obtain ⟨y, hy, rfl⟩ := List.mem_map.mp hz
  have := rdg_signs (h y hy) hc
  omega
theorem cut_rdg {x : Rdg} (h : RdgOk x) : Txt.split (rdgS x) (Str.ofString " ") = [entS x.1, Str.join (Str.ofString ",") (x.2.map fun n => numS ((n : Nat) : Int))] := by
  refine split_pair sep_sp (fun hc => ?_) fun hc => ?_
  · have := ent_signs h.1 hc
    omega
  · have := rows_signs hc
    omega
theorem cut_rows {ns : List Nat} (hn : ns ≠ []) : Txt.split (Str.join (Str.ofString ",") (ns.map fun n => numS ((n : Nat) : Int))) (Str.ofString ",") = ns.map fun n => numS ((n : Nat) : Int) := by
  refine split_join_S sep_comma (fun e => hn (List.map_eq_nil_iff.mp e)) fun z hz hc => ?_
  obtain ⟨n, _, rfl⟩ := List.mem_map.mp hz
  have := numS_digits n _ hc
  omega
theorem head_nil {es : List V} (hE : ∀ e ∈ es, Ent e) : headS es = Str.ofString "" ↔ es = [] := by
  constructor
  · intro h
    cases es with
    | nil => rfl
    | cons e r =>
      exfalso
      have h1 := cut_head hE (fun z => nomatch z)
      have h3 := congrArg (fun z : Str => z.cps.toList) h
      have e0 : (Str.ofString "").cps.toList = [] := by decide +kernel
      have h3 : (headS (e :: r)).cps.toList = [] := h3.trans e0
      have h4 : 0 < (entS e).length := by
        rcases hE e List.mem_cons_self with rfl | ⟨z, hz, rfl⟩
        · decide +kernel
        · exact hz.lo
      have h5 : ∃ c, c ∈ (entS e).cps.toList := by
        rw [← clen] at h4
        exact ⟨_, List.getElem_mem h4⟩
      obtain ⟨c, hc⟩ := h5
      have h6 : c ∈ (headS (e :: r)).cps.toList := by
        unfold headS
        rw [sjoin_S, List.map_cons, List.map_cons]
        cases r with
        | nil => exact hc
        | cons f r => exact List.mem_append_left _ hc
      rw [show (headS (e :: r)).cps.toList = [] from h3] at h6
      cases h6
  · rintro rfl
    rfl
end
end Vm

set_option Elab.async false
set_option linter.all false

namespace K31
open PySem PySem.Spec PyProof.Rows L2 L3 Vm
def top (i : Nat) : Stmt := PySem.Challenge.pw_vellum_k31_an_apparatus_read.main.body.getD i (.Pass ⟨0, 0, 0, 0⟩)
abbrev sRdf : Stmt := top 4
abbrev sCB : Stmt := top 5
abbrev sOB : Stmt := top 6
abbrev sHas : Stmt := top 12
abbrev sIsW : Stmt := top 13
abbrev sWr : Stmt := top 14
abbrev sNum : Stmt := top 15
abbrev sEW : Stmt := top 19
abbrev sRW : Stmt := top 20
abbrev sNW : Stmt := top 21
abbrev sAW : Stmt := top 22
abbrev sER : Stmt := top 23
abbrev sESR : Stmt := top 24
abbrev sNR : Stmt := top 25
abbrev sPR : Stmt := top 26
abbrev sRR : Stmt := top 27
abbrev sNTR : Stmt := top 28
abbrev sAR : Stmt := top 29
abbrev sCell : Stmt := top 31
abbrev sDraw : Stmt := top 32
abbrev sWordBy : Stmt := top 33
abbrev sPool : Stmt := top 34
abbrev sCol : Stmt := top 35
abbrev sSame : Stmt := top 36
abbrev sRd : Stmt := top 37
abbrev sNts : Stmt := top 38
abbrev sLE : Stmt := top 39
abbrev sLW : Stmt := top 40
abbrev sScene : Stmt := top 41
abbrev sLaw : Stmt := top 42
section
variable {P : Program} {w : World} {K : PySem.W.Frag} {mg : Str → Option Value} {base : Heap}
/-- a def of the text, as the others call it -/
structure Dfn (K : PySem.W.Frag) (mg : Str → Option Value) (x : Str) (st : Stmt) (f : Addr) (fd : FuncData) (ps : List Str) : Prop where
  fn : Fun K x x st f fd
  at_ : mg x = some (.ref f)
  bn : Binds K fd ps []
/-! ### has_only -/
def spHas : Sp := fun vs H Q _ => ∃ z y : Str, vs = [.str z, .str y] ∧ z.length ≤ sizeLine ∧ Q (.bl (onlyB z y)) H
theorem scHas : FnScope ["text", "signs"] ["text", "signs"] (defScope sHas) := ⟨rfl, rfl, rfl, by decide +kernel, rfl, by decide +kernel, by decide +kernel⟩
theorem nd_sign : (["sign", "signs"] : List Str).Nodup := by decide +kernel
theorem ok_has {f : Addr} {fd : FuncData} (F : Fun K "has_only" "has_only" sHas f fd) (mall : mg "all" = none) : FnOk P w K mg base CX0 1 f fd ["text", "signs"] spHas := by
  refine Fun.okR F scHas (fun vs H Q E h => ?_) (fun cdv A outer s H vs Q Q2 E hr h hq => ?_)
  · obtain ⟨z, y, rfl, _⟩ := h
    rfl
  · obtain ⟨z, y, rfl, hz, q⟩ := h
    refine ⟨_, pss_one (ps_ret (pe_callB (call_all rfl) (by rfl) mall boot_all (pa_cons (pe_comp (Nc := ["sign", "signs"]) (mp := [none, some 1]) rfl (CompOk.of (by rfl)) (pi_str (pv 0))
      (fun cl C s H fp => ⟨pg_name (i := 0) nd_sign rfl (Or.inl rfl), pts_nil, pe_cmpR op_in_str (pv 0) (pv 1) (by with_unfolding_all rfl)⟩)) pa_nil))), ?_⟩
    refine ⟨_, rfl, z, rfl, comp_map (as := z.cps.toList) (fun c => .bl (decide (c ∈ y.cps.toList))) (src_str z H) (by rw [clen]; exact hz) (fun c hc k hk => ?_) (fun D hD => ?_)⟩
    · refine ⟨_, rfl, _, rfl, _, _, rfl, rfl, ?_⟩
      rw [PySem.StrLaws.found_one]
      exact hk
    · refine ⟨D, z.cps.toList.map fun c => decide (c ∈ y.cps.toList), rfl, SqL.of ?_, ?_⟩
      · rw [upd_same, List.map_map]; rfl
      · refine hq _ _ (Rst.same (same_upd hD) ?_)
        have e : (z.cps.toList.map fun c => decide (c ∈ y.cps.toList)).all id = onlyB z y := by
          unfold onlyB; rw [List.all_map]; rfl
        rw [e]; exact q
/-! ### is_word -/
def spIsW : Sp := fun vs H Q _ => ∃ z : Str, vs = [.str z] ∧ z.length ≤ sizeLine ∧ Q (.bl (wordB z)) H
theorem scIsW : FnScope ["text"] ["text"] (defScope sIsW) := ⟨rfl, rfl, rfl, by decide +kernel, rfl, by decide +kernel, by decide +kernel⟩
theorem ok_isw {f g : Addr} {fd gd : FuncData} (F : Fun K "is_word" "is_word" sIsW f fd) (D : Dfn K mg "has_only" sHas g gd ["text", "signs"]) (mall : mg "all" = none) (mlen : mg "len" = none)
    {tl tm : Tok} (mL : mg "LETTERS" = some (.str letters tl)) (mM : mg "MOST_LETTERS" = some (.int 12 tm)) : FnOk P w K mg base CX0 2 f fd ["text"] spIsW := by
  have G : FnOk P w K mg base CX0 1 g gd ["text", "signs"] spHas := ok_has D.fn mall
  refine Fun.okR F scIsW (fun vs H Q E h => ?_) (fun cdv A outer s H vs Q Q2 E hr h hq => ?_)
  · obtain ⟨z, rfl, _⟩ := h
    rfl
  · obtain ⟨z, rfl, hz, q⟩ := h
    refine ⟨_, pss_one (ps_ret (pe_and (pe_chain op_le op_le pe_int (pe_callB call_len_str (by rfl) mlen PySem.boot_len (pa_cons (pv 0) pa_nil)) (pe_glob (v := .int 12) (by rfl) mM ⟨_, rfl⟩))
      (pe_one (pe_call G hr (by rfl) D.at_ D.fn.kp D.bn .nil pass0 (pa_cons (pv 0) (pa_cons (pe_glob (v := .str letters) (by rfl) mL ⟨_, rfl⟩) pa_nil)))))), ?_⟩
    refine ⟨_, rfl, z, rfl, hz, _, _, rfl, rfl, _, rfl, ?_⟩
    refine ite2 (fun h1 => ?_) (fun h1 => ?_)
    · refine ⟨_, _, rfl, rfl, _, rfl, ?_⟩
      refine ite2 (fun h2 => ?_) (fun h2 => ?_)
      · refine ⟨_, rfl, z, letters, rfl, hz, hq _ _ (Rst.same (Same.refl H) ?_)⟩
        have e : wordB z = onlyB z letters := by
          unfold wordB
          rw [decide_eq_true (show 1 ≤ z.length ∧ z.length ≤ 12 from ⟨by have := of_decide_eq_true h1; omega, by have := of_decide_eq_true h2; omega⟩), Bool.true_and]
        rw [← e]; exact q
      · refine hq _ _ (Rst.same (Same.refl H) ?_)
        have e : wordB z = false := by
          unfold wordB
          rw [decide_eq_false (fun c => h2 (decide_eq_true (by have := c.2; omega))), Bool.false_and]
        rw [← e]; exact q
    · refine ⟨_, rfl, iteF (hq _ _ (Rst.same (Same.refl H) ?_))⟩
      have e : wordB z = false := by
        unfold wordB
        rw [decide_eq_false (fun c => h1 (decide_eq_true (by have := c.1; omega))), Bool.false_and]
      rw [← e]; exact q
/-! ### writes_number, number_of, and the law's own -/
def spWr : Sp := fun vs H Q _ => ∃ z : Str, vs = [.str z] ∧ z.length ≤ sizeLine ∧ Q (.bl (writesB z)) H
theorem scWr : FnScope ["text"] ["text"] (defScope sWr) := ⟨rfl, rfl, rfl, by decide +kernel, rfl, by decide +kernel, by decide +kernel⟩
theorem sign_eq (c d : Nat) : (V.str ⟨#[c]⟩ = V.str ⟨#[d]⟩) ↔ c = d := ⟨fun e => by injection e with e; injection e with e; simpa using e, fun e => by rw [e]⟩
theorem nought_eq : Str.ofString "0" = (⟨#[48]⟩ : Str) := by decide +kernel
theorem ok_wr {f g : Addr} {fd gd : FuncData} (F : Fun K "writes_number" "writes_number" sWr f fd) (D : Dfn K mg "has_only" sHas g gd ["text", "signs"]) (mall : mg "all" = none) {tf : Tok} (mF : mg "FIGURES" = some (.str figures tf)) : FnOk P w K mg base CX0 2 f fd ["text"] spWr := by
  have G : FnOk P w K mg base CX0 1 g gd ["text", "signs"] spHas := ok_has D.fn mall
  refine Fun.okR F scWr (fun vs H Q E h => ?_) (fun cdv A outer s H vs Q Q2 E hr h hq => ?_)
  · obtain ⟨z, rfl, _⟩ := h
    rfl
  · obtain ⟨z, rfl, hz, q⟩ := h
    refine ⟨_, pss_cons (ps_if (pw_or (pt_cmpR op_eq (pv 0) pe_str (nomark _)) (pw_or1 (pt_not (pt_val (pe_call G hr (by rfl) D.at_ D.fn.kp D.bn .nil pass0 (pa_cons (pv 0) (pa_cons (pe_glob (v := .str figures) (by rfl) mF ⟨_, rfl⟩) pa_nil))))))).pt (pss_one (ps_ret pe_bl)) pss_nil)
      (pss_one (ps_ret (pe_or (pe_cmpR op_eq (pv 0) pe_str (nomark _)) (pe_one (pe_cmpR op_ne (pe_ix ix_str (pv 0) pe_int (fun _ _ => rfl)) pe_str (nomark _)))))), ?_⟩
    have go : ∀ b, writesB z = b → Q2 (.bl b) H := fun b e => hq _ _ (Rst.same (Same.refl H) (by rw [← e]; exact q))
    refine ⟨_, rfl, rfl, _, rfl, ?_⟩
    refine ite2 (fun h => ?_) (fun h => ?_)
    · have e := of_decide_eq_true h
      injection e with e
      exact iteT (go _ (by unfold writesB; rw [if_pos e]))
    have hne : ¬ z = Str.ofString "" := fun e => h (decide_eq_true (by rw [e]))
    refine ⟨_, rfl, z, figures, rfl, hz, _, rfl, ?_⟩
    cases ho : onlyB z figures with
    | false => exact iteT (go _ (by unfold writesB; rw [if_neg hne, ho]; rfl))
    | true =>
      refine iteF ⟨_, rfl, rfl, _, rfl, ?_⟩
      have ew : writesB z = (decide (z = Str.ofString "0") || !decide (z.cps.toList[0]? = some 48)) := by unfold writesB; rw [if_neg hne, ho]; rfl
      refine ite2 (fun h0 => ?_) (fun h0 => ?_)
      · have e := of_decide_eq_true h0
        injection e with e
        exact go _ (by rw [ew, decide_eq_true e, Bool.true_or])
      · have e0 : ¬ z = Str.ofString "0" := fun e => h0 (decide_eq_true (by rw [e]))
        have hl : 0 < z.cps.toList.length := List.length_pos_iff.mpr (ne_nil hne)
        refine ⟨_, rfl, z, 0, z.cps.toList[0], rfl, rfl, hz, atI_nat (j := 0) (List.getElem?_eq_getElem hl), rfl, go _ ?_⟩
        rw [ew, decide_eq_false e0, Bool.false_or, List.getElem?_eq_getElem hl]
        congr 1
        refine decide_eq_decide.mpr ?_
        rw [nought_eq, sign_eq]
        exact ⟨fun e => Option.some.inj e, fun e => by rw [e]⟩
def spNum : Sp := fun vs H Q _ => ∃ (z : Str) (most : Int), vs = [.str z, .int most] ∧ z.length ≤ 10000 ∧ 0 ≤ most ∧ most ≤ 10 ^ 30 ∧ Q (optV (pnum z most)) H
theorem scNum : FnScope ["text", "most", "number"] ["text", "most"] (defScope sNum) := ⟨rfl, rfl, rfl, by decide +kernel, rfl, by decide +kernel, by decide +kernel⟩
theorem wr_parts {z : Str} (h : writesB z = true) : z ≠ Str.ofString "" ∧ onlyB z figures = true := by
  unfold writesB at h
  by_cases h0 : z = Str.ofString ""
  · rw [if_pos h0] at h; cases h
  · rw [if_neg h0] at h
    refine ⟨h0, ?_⟩
    by_cases h1 : onlyB z figures = true
    · exact h1
    · rw [if_neg h1] at h; cases h
theorem ok_num {f g gH : Addr} {fd gd dH : FuncData} (F : Fun K "number_of" "number_of" sNum f fd) (D : Dfn K mg "writes_number" sWr g gd ["text"]) (DH : Dfn K mg "has_only" sHas gH dH ["text", "signs"]) (mall : mg "all" = none) (mlen : mg "len" = none) (mstr : mg "str" = none) (mint : mg "int" = none)
    {tf : Tok} (mF : mg "FIGURES" = some (.str figures tf)) : FnOk P w K mg base CX0 3 f fd ["text", "most"] spNum := by
  have G : FnOk P w K mg base CX0 2 g gd ["text"] spWr := ok_wr D.fn DH mall mF
  refine Fun.okR F scNum (fun vs H Q E h => ?_) (fun cdv A outer s H vs Q Q2 E hr h hq => ?_)
  · obtain ⟨z, m, rfl, _⟩ := h
    rfl
  · obtain ⟨z, m, rfl, hz, h0, h1, q⟩ := h
    refine ⟨_, pss_cons (ps_if (pw_or (pt_not (pt_val (pe_call G hr (by rfl) D.at_ D.fn.kp D.bn .nil pass0 (pa_cons (pv 0) pa_nil)))) (pw_or1 (pt_cmpR op_gt (pe_callB call_len_str (by rfl) mlen PySem.boot_len (pa_cons (pv 0) pa_nil)) (pe_callB call_len_str (by rfl) mlen PySem.boot_len (pa_cons (pe_callTy call_str_int (by rfl) mstr boot_str (pa_cons (pv 1) pa_nil)) pa_nil)) (nomark _)))).pt (pss_one (ps_ret pe_non)) pss_nil)
      (pss_cons (ps_set (i := 2) scNum.nd rfl (Or.inl rfl) (pe_callTy call_int_text (by rfl) mint boot_int (pa_cons (pv 0) pa_nil)))
      (pss_one (ps_ret (pe_ifExp (pt_cmpR op_le (pv 2) (pv 1) (nomark _)) (pv 2) pe_non)))), ?_⟩
    have go : ∀ o, pnum z m = o → Q2 (optV o) H := fun b e => hq _ _ (Rst.same (Same.refl H) (by rw [← e]; exact q))
    have hm40 : m < 10 ^ 40 := by omega
    refine ⟨_, rfl, z, rfl, few (by omega), _, rfl, ?_⟩
    cases hw : writesB z with
    | false => exact iteT (iteT (go none (by unfold pnum; rw [hw]; rfl)))
    | true =>
      obtain ⟨hne, ho⟩ := wr_parts hw
      have hnl := numS_len h0 hm40
      refine iteF ⟨_, rfl, z, rfl, few (by omega), _, rfl, m, rfl, log_ok h0 hm40, numS m, rfl, few (by omega), _, _, rfl, rfl, _, rfl, ?_⟩
      refine ite2 (fun h => ?_) (fun h => ?_)
      · have hl := of_decide_eq_true h
        exact go none (pnum_long (most_lt h0) (numS_pos m h0) (by omega))
      · have hl : ¬ (((numS m).length : Int) < (z.length : Int)) := fun c => h (decide_eq_true c)
        refine ⟨_, rfl, z, _, rfl, digits_read ho hne (by omega), by omega, ?_⟩
        refine ⟨_, rfl, _, rfl, _, _, rfl, rfl, _, rfl, ?_⟩
        refine ite2 (fun h2 => ?_) (fun h2 => ?_)
        · exact ⟨_, rfl, go (some _) (by unfold pnum; rw [hw, if_pos rfl, if_pos (of_decide_eq_true h2)])⟩
        · exact go none (by unfold pnum; rw [hw, if_pos rfl, if_neg fun c => h2 (decide_eq_true c)])
theorem kit_same (v : Value) : PySem.W.kitOne K v v = some true := by
  unfold PySem.W.kitOne
  rw [if_pos (beq_self_eq_true _)]
/-! ### a cell -/
def cellD (ns : List Int) (k : Int) : Int := (ns[k.toNat]?).getD 0
def spCell (K : PySem.W.Frag) : Sp := fun vs H Q _ => ∃ (a : Addr) (ns : List Int) (k : Int), vs = [.ref a, .int k] ∧ SqL K H a (ns.map V.int) ∧ 0 ≤ k ∧ Q (.int (cellD ns k)) H
theorem scCell : FnScope ["script", "k"] ["script", "k"] (defScope sCell) := ⟨rfl, rfl, rfl, by decide +kernel, rfl, by decide +kernel, by decide +kernel⟩
theorem ok_cell {f : Addr} {fd : FuncData} (F : Fun K "_law_cell_at" "_law_cell_at" sCell f fd) (mlen : mg "len" = none) : FnOk P w K mg base CX0 1 f fd ["script", "k"] (spCell K) := by
  refine Fun.okR F scCell (fun vs H Q E h => ?_) (fun cdv A outer s H vs Q Q2 E hr h hq => ?_)
  · obtain ⟨a, ns, k, rfl, _⟩ := h
    rfl
  · obtain ⟨a, ns, k, rfl, hS, h0, q⟩ := h
    refine ⟨_, pss_cons (ps_if (pt_cmpR op_lt (pv 1) (pe_callB call_len_seq (by rfl) mlen PySem.boot_len (pa_cons (pv 0) pa_nil)) (nomark _)) (pss_one (ps_ret (pe_ix ix_list (pv 0) (pv 1) (fun _ _ => rfl)))) pss_nil)
      (pss_one (ps_ret pe_int)), ?_⟩
    refine ⟨_, rfl, _, rfl, a, _, rfl, .inl hS, _, _, rfl, rfl, _, rfl, ?_⟩
    obtain ⟨j, hj⟩ : ∃ j : Nat, k = (j : Int) := ⟨k.toNat, by omega⟩
    subst hj
    refine ite2 (fun h => ?_) (fun h => ?_)
    · have hl := of_decide_eq_true h
      rw [List.length_map] at hl
      have hj' : j < ns.length := by omega
      have e : cellD ns (j : Int) = ns[j] := by unfold cellD; rw [Int.toNat_natCast, List.getElem?_eq_getElem hj']; rfl
      rw [e] at q
      exact ⟨_, rfl, _, rfl, a, _, _, _, rfl, rfl, hS, atI_nat (by rw [List.getElem?_map, List.getElem?_eq_getElem hj']; rfl), hq _ _ (Rst.same (Same.refl H) q)⟩
    · have hl : ¬ ((j : Int) < ((ns.map V.int).length : Int)) := fun c => h (decide_eq_true c)
      rw [List.length_map] at hl
      have e : cellD ns (j : Int) = 0 := by unfold cellD; rw [Int.toNat_natCast, List.getElem?_eq_none (by omega)]; rfl
      rw [e] at q
      exact hq _ _ (Rst.same (Same.refl H) q)
/-! ### letters -/
theorem bits_cell {ns : List Int} (hb : ∀ m ∈ ns, Builtin.Int.intBits m ≤ 1048576) (k : Int) : Builtin.Int.intBits (cellD ns k) ≤ 1048576 := by
  unfold cellD
  cases e : ns[k.toNat]? with
  | none => show Builtin.Int.intBits 0 ≤ _; decide
  | some n => exact hb n (List.mem_of_getElem? e)
theorem letter_at (r : Int) : ∃ c, atI (letters.cps.toList) (r % 26) = some c ∧ Al c := by
  have h0 : 0 ≤ r % 26 := Int.emod_nonneg _ (by decide)
  have h1 : r % 26 < 26 := Int.emod_lt_of_pos _ (by decide)
  have e : r % 26 = ((r % 26).toNat : Int) := by omega
  refine ⟨97 + (r % 26).toNat, ?_, al_mod _ (by omega)⟩
  rw [e]
  refine atI_nat ?_
  rw [letters_cps, List.getElem?_map, List.getElem?_range (by omega)]
  rfl
def Lets (z : Str) (n : Nat) : Prop := z.length = n ∧ ∀ c ∈ z.cps.toList, Al c
theorem lets_app {z : Str} {n c : Nat} (h : Lets z n) (hc : Al c) : Lets (z ++ ⟨#[c]⟩) (n + 1) := by
  refine ⟨by rw [app_len, h.1]; rfl, fun d hd => ?_⟩
  rw [app_list] at hd
  rcases List.mem_append.mp hd with hd | hd
  · exact h.2 d hd
  · have : d = c := by simpa using hd
    rw [this]; exact hc
theorem lets_good {z : Str} {n : Nat} (h : Lets z n) (h1 : 1 ≤ n) (h2 : n ≤ 12) : Good z := ⟨by rw [h.1]; exact h1, by rw [h.1]; exact h2, h.2⟩
/-! ### a draw -/
def mixD (c k : Int) : Int := (c * 2 + 1) * (k * k * 9176023 + 84127918273645463728191) % 170141183460469231731687303715884105727
def drawD (c k m : Int) : Int := mixD c k * (mixD c k + 5) % 170141183460469231731687303715884105727 / 7 % m
theorem draw_lo (c k : Int) {m : Int} (h : 0 < m) : 0 ≤ drawD c k m := Int.emod_nonneg _ (by omega)
theorem draw_hi (c k : Int) {m : Int} (h : 0 < m) : drawD c k m < m := Int.emod_lt_of_pos _ h
def spDraw : Sp := fun vs H Q _ => ∃ c k m : Int, vs = [.int c, .int k, .int m] ∧ Builtin.Int.intBits c ≤ 1048576 ∧ 0 ≤ k ∧ k ≤ 100000 ∧ 0 < m ∧ Q (.int (drawD c k m)) H
theorem scDraw : FnScope ["cell", "k", "many", "prime", "mixed"] ["cell", "k", "many"] (defScope sDraw) := ⟨rfl, rfl, rfl, by decide +kernel, rfl, by decide +kernel, by decide +kernel⟩
theorem ok_draw {f : Addr} {fd : FuncData} (F : Fun K "_law_draw" "_law_draw" sDraw f fd) : FnOk P w K mg base CX0 1 f fd ["cell", "k", "many"] spDraw := by
  refine Fun.okR F scDraw (fun vs H Q E h => ?_) (fun cdv A outer s H vs Q Q2 E hr h hq => ?_)
  · obtain ⟨c, k, m, rfl, _⟩ := h
    rfl
  · obtain ⟨c, k, m, rfl, hb, hk0, hk1, hm, q⟩ := h
    refine ⟨_, pss_cons (ps_set (i := 3) scDraw.nd rfl (Or.inl rfl) pe_int)
      (pss_cons (ps_set (i := 4) scDraw.nd rfl (Or.inl rfl) (pe_op op_mod (pe_op op_mulB (pe_op op_add (pe_op op_mulB (pv 0) pe_int) pe_int) (pe_op op_add (pe_op op_mulB (pe_op op_mulB (pv 1) (pv 1)) pe_int) pe_int)) (pv 3)))
      (pss_one (ps_ret (pe_op op_mod (pe_op op_fdiv (pe_op op_mod (pe_op op_mulB (pv 4) (pe_op op_add (pv 4) pe_int)) (pv 3)) pe_int) (pv 2))))), ?_⟩
    have p0 : (0 : Int) < 170141183460469231731687303715884105727 := by decide
    have bk : Builtin.Int.intBits k ≤ 20 := intBits_le_iff.mpr (by omega)
    have b2 : Builtin.Int.intBits 2 ≤ 2 := by decide +kernel
    have b1 : Builtin.Int.intBits 1 ≤ 1 := by decide +kernel
    have b9 : Builtin.Int.intBits 9176023 ≤ 24 := by decide +kernel
    have b8 : Builtin.Int.intBits 84127918273645463728191 ≤ 77 := by decide +kernel
    have b5 : Builtin.Int.intBits 5 ≤ 3 := by decide +kernel
    have bA := intBits_add_le (intBits_mul_le hb b2) b1
    have bB := intBits_add_le (intBits_mul_le (intBits_mul_le bk bk) b9) b8
    have x0 : 0 ≤ mixD c k := Int.emod_nonneg _ (by decide)
    have x1 : mixD c k < 170141183460469231731687303715884105727 := Int.emod_lt_of_pos _ p0
    have bx : Builtin.Int.intBits (mixD c k) ≤ 127 := intBits_le_iff.mpr (by
      have : (2 : Nat) ^ 127 = 170141183460469231731687303715884105728 := by decide
      rw [this]; omega)
    have by5 := intBits_add_le bx b5
    refine ⟨_, rfl, _, _, rfl, rfl, .of_le hb b2 (by decide), _, _, rfl, rfl, _, rfl, _, rfl, _, _, rfl, rfl, .of_le bk bk (by decide), _, _, rfl, rfl, .of_le (intBits_mul_le bk bk) b9 (by decide), _, _, rfl, rfl, _, _, rfl, rfl, .of_le bA bB (by decide), _, rfl, _, _, rfl, rfl, p0, ?_⟩
    refine ⟨_, rfl, _, rfl, _, _, rfl, rfl, _, _, rfl, rfl, .of_le bx by5 (by decide), _, rfl, _, _, rfl, rfl, p0, _, _, rfl, rfl, ⟨by decide, by decide⟩, _, rfl, _, _, rfl, rfl, hm, hq _ _ (Rst.same (Same.refl H) q)⟩
/-! ### a word by a cell -/
theorem at4 (c k : Int) : ∃ n : Nat, atI [V.int 1, .int 2, .int 3, .int 12] (drawD c k 4) = some (.int ((n : Nat) : Int)) ∧ 1 ≤ n ∧ n ≤ 12 := by
  have h0 := draw_lo c k (m := 4) (by decide)
  have h1 := draw_hi c k (m := 4) (by decide)
  generalize drawD c k 4 = d at h0 h1
  obtain ⟨j, rfl⟩ : ∃ j : Nat, d = (j : Int) := ⟨d.toNat, by omega⟩
  have hj : j < 4 := by omega
  match j, hj with
  | 0, _ => exact ⟨1, rfl, by decide, by decide⟩
  | 1, _ => exact ⟨2, rfl, by decide, by decide⟩
  | 2, _ => exact ⟨3, rfl, by decide, by decide⟩
  | 3, _ => exact ⟨12, rfl, by decide, by decide⟩
def spWordBy : Sp := fun vs H Q _ => ∃ c k : Int, vs = [.int c, .int k] ∧ Builtin.Int.intBits c ≤ 1048576 ∧ 0 ≤ k ∧ k ≤ 100 ∧ ∀ z, Good z → Q (.str z) H
theorem scWordBy : FnScope ["cell", "k", "word", "j"] ["cell", "k"] (defScope sWordBy) := ⟨rfl, rfl, rfl, by decide +kernel, rfl, by decide +kernel, by decide +kernel⟩
theorem ok_wordby {f gD : Addr} {fd dD : FuncData} (F : Fun K "_law_word_by" "_law_word_by" sWordBy f fd) (DD : Dfn K mg "_law_draw" sDraw gD dD ["cell", "k", "many"]) (mrange : mg "range" = none) : FnOk P w K mg base CX0 2 f fd ["cell", "k"] spWordBy := by
  have GD : FnOk P w K mg base CX0 1 gD dD ["cell", "k", "many"] spDraw := ok_draw DD.fn
  refine Fun.okR F scWordBy (fun vs H Q E h => ?_) (fun cdv A outer s H vs Q Q2 E hr h hq => ?_)
  · obtain ⟨c, k, rfl, _⟩ := h
    rfl
  · obtain ⟨c, k, rfl, hb, hk0, hk1, q⟩ := h
    refine ⟨_, pss_cons (ps_set (i := 2) scWordBy.nd rfl (Or.inl rfl) pe_str)
      (pss_cons (ps_for PassesOwn.never rfl (pi_range1 (by rfl) mrange (pa_cons (pe_ix ix_list (pe_lst (pa_cons pe_int (pa_cons pe_int (pa_cons pe_int (pa_cons pe_int pa_nil))))) (pe_call GD hr (by rfl) DD.at_ DD.fn.kp DD.bn .nil pass0 (pa_cons (pv 0) (pa_cons (pe_op op_add (pe_op op_mul pe_int (pv 1)) pe_int) (pa_cons pe_int pa_nil)))) (fun _ _ => rfl)) pa_nil)) (pg_name (i := 3) scWordBy.nd rfl (Or.inl rfl))
        (pss_one (ps_set (i := 2) scWordBy.nd rfl (Or.inl rfl) (pe_op op_add_str (pv 2) (pe_ix ix_str pe_str (pe_call GD hr (by rfl) DD.at_ DD.fn.kp DD.bn .nil pass0 (pa_cons (pv 0) (pa_cons (pe_op op_add (pe_op op_add pe_int (pe_op op_mul pe_int (pv 1))) (pv 3)) (pa_cons pe_int pa_nil)))) (fun _ _ => rfl))))))
      (pss_one (ps_ret (pv 2)))), ?_⟩
    obtain ⟨n, hn, n1, n2⟩ := at4 c (10 * k + 1)
    refine ⟨few (by show 4 ≤ _; omega), fun l hl => ?_⟩
    refine ⟨_, rfl, _, rfl, _, _, rfl, rfl, .inl ⟨by decide, by decide⟩, _, _, rfl, rfl, _, _, _, rfl, hb, (by show (0 : Int) ≤ 10 * k + 1; omega), (by show 10 * k + 1 ≤ 100000; omega), (by show (0 : Int) < 4; decide), l, _, _, _, rfl, rfl, SqL.of upd_same, hn, ((n : Nat) : Int), rfl, by omega, by omega, ?_⟩
    rw [Int.toNat_natCast]
    refine for_range (n := n) (fun i σ H2 => ∃ (z : Str) (v3 : Option V), σ = [some (.int c), some (.int k), some (.str z), v3] ∧ H2 = upd H l (.lst [.int 1, .int 2, .int 3, .int 12]) ∧ Lets z i)
      ⟨Str.ofString "", none, rfl, rfl, by decide +kernel, fun c hc => absurd hc (by rw [show (Str.ofString "").cps.toList = [] from by decide +kernel]; exact List.not_mem_nil)⟩ ?_ ?_
    · rintro i σ H2 hi ⟨z, v3, rfl, rfl, hz⟩
      obtain ⟨d, hd, ad⟩ := letter_at (mixD c (300 + 20 * k + (0 + ((i : Nat) : Int))) * (mixD c (300 + 20 * k + (0 + ((i : Nat) : Int))) + 5) % 170141183460469231731687303715884105727 / 7)
      refine ⟨_, rfl, _, rfl, _, rfl, _, _, rfl, rfl, .inl ⟨by decide, by decide⟩, _, _, rfl, rfl, _, rfl, _, _, rfl, rfl, _, _, _, rfl, hb, (by show (0 : Int) ≤ 300 + 20 * k + (0 + ((i : Nat) : Int)); omega), (by show 300 + 20 * k + (0 + ((i : Nat) : Int)) ≤ 100000; omega), (by show (0 : Int) < 26; decide), letters, _, d, rfl, rfl, (by decide +kernel), hd, _, _, rfl, rfl, few (by rw [hz.1]; show _ + 1 ≤ _; omega), ?_⟩
      exact ⟨_, _, rfl, rfl, lets_app hz ad⟩
    · rintro σ H2 ⟨z, v3, rfl, rfl, hz⟩
      exact ⟨_, rfl, hq _ _ (Rst.same (same_upd hl) (q _ (lets_good hz n1 n2)))⟩
/-! ### a pool of words -/
theorem turned_good {z : Str} (g : Good z) {j d : Nat} (hj : j < z.length) (ad : Al d) : Good (((⟨(z.cps.toList.take j).toArray⟩ : Str) ++ (⟨#[d]⟩ : Str)) ++ (⟨(z.cps.toList.drop (j + 1)).toArray⟩ : Str)) := by
  have hl := g.lo
  have hh := g.hi
  have hz := clen z
  have l1 : (⟨#[d]⟩ : Str).length = 1 := rfl
  refine ⟨?_, ?_, fun c hc => ?_⟩
  · rw [app_len, app_len, l1]
    omega
  · rw [app_len, app_len, l1, mk_len, mk_len, List.length_take, List.length_drop]
    omega
  · rw [app_list, app_list, mk_list, mk_list] at hc
    rcases List.mem_append.mp hc with hc | hc
    · rcases List.mem_append.mp hc with hc | hc
      · exact g.al c (List.mem_of_mem_take hc)
      · have e : c = d := by simpa using hc
        rw [e]; exact ad
    · exact g.al c (List.mem_of_mem_drop hc)
def spPool : Sp := fun vs H Q _ => ∃ c : Int, vs = [.int c] ∧ Builtin.Int.intBits c ≤ 1048576 ∧ ∀ (p : Addr) (ws : List Str), H p = none → ws.length = 5 → (∀ z ∈ ws, Good z) → Q (.ref p) (upd H p (.lst (ws.map V.str)))
theorem scPool : FnScope ["cell", "pool", "at", "letter"] ["cell"] (defScope sPool) := ⟨rfl, rfl, rfl, by decide +kernel, rfl, by decide +kernel, by decide +kernel⟩
theorem nd_kc : (["k", "cell"] : List Str).Nodup := by decide +kernel
theorem ok_pool {f gD gW : Addr} {fd dD dW : FuncData} (F : Fun K "_law_pool" "_law_pool" sPool f fd) (DD : Dfn K mg "_law_draw" sDraw gD dD ["cell", "k", "many"]) (DW : Dfn K mg "_law_word_by" sWordBy gW dW ["cell", "k"]) (mrange : mg "range" = none) (mlen : mg "len" = none) : FnOk P w K mg base CX0 3 f fd ["cell"] spPool := by
  have GD : FnOk P w K mg base CX0 2 gD dD ["cell", "k", "many"] spDraw := (ok_draw DD.fn).mono (by decide)
  have GW : FnOk P w K mg base CX0 2 gW dW ["cell", "k"] spWordBy := ok_wordby DW.fn DD mrange
  refine Fun.okR F scPool (fun vs H Q E h => ?_) (fun cdv A outer s H vs Q Q2 E hr h hq => ?_)
  · obtain ⟨c, rfl, _⟩ := h
    rfl
  · obtain ⟨c, rfl, hb, q⟩ := h
    refine ⟨_, pss_cons (ps_setC (i := 1) (Nc := ["k", "cell"]) (mp := [none, some 0]) rfl scPool.nd rfl rfl (CompOk.of (by rfl)) (pi_range1 (by rfl) mrange (pa_cons pe_int pa_nil)) (fun cl C s H fp => ⟨pg_name (i := 0) nd_kc rfl (Or.inl rfl), pts_nil, pe_call GW hr (by rfl) DW.at_ DW.fn.kp DW.bn .nil pass0 (pa_cons (pv 1) (pa_cons (pv 0) pa_nil))⟩))
      (pss_cons (ps_set (i := 2) scPool.nd rfl (Or.inl rfl) (pe_call GD hr (by rfl) DD.at_ DD.fn.kp DD.bn .nil pass0 (pa_cons (pv 0) (pa_cons pe_int (pa_cons (pe_callB call_len_str (by rfl) mlen PySem.boot_len (pa_cons (pe_ix ix_list (pv 1) pe_int (fun _ _ => rfl)) pa_nil)) pa_nil)))))
      (pss_cons (ps_set (i := 3) scPool.nd rfl (Or.inl rfl) (pe_ix ix_str pe_str (pe_call GD hr (by rfl) DD.at_ DD.fn.kp DD.bn .nil pass0 (pa_cons (pv 0) (pa_cons pe_int (pa_cons pe_int pa_nil)))) (fun _ _ => rfl)))
      (pss_one (ps_ret (pe_op op_cat (pv 1) (pe_lst (pa_cons (pe_op op_add_str (pe_op op_add_str (pe_slice sl_str (pe_ix ix_list (pv 1) pe_int (fun _ _ => rfl)) po_none (po_some (pv 2))) (pv 3)) (pe_slice sl_str (pe_ix ix_list (pv 1) pe_int (fun _ _ => rfl)) (po_some (pe_op op_add (pv 2) pe_int)) po_none)) pa_nil))))))), ?_⟩
    refine ⟨4, rfl, by decide, by decide, ?_⟩
    refine comp_grow (as := List.range 4) (v := fun k => .int (0 + ((k : Nat) : Int))) (fun i acc H' => H' = H ∧ ∃ ws : List Str, acc = ws.map V.str ∧ ws.length = i ∧ ∀ z ∈ ws, Good z) (fun i acc H' _ ⟨e, _⟩ => by rw [e]; exact src_range 0 4 H) (by rw [List.length_range]; exact few (by omega))
      ⟨rfl, [], rfl, rfl, fun _ z => nomatch z⟩ (fun i acc H' ⟨_, ws, e, hl, _⟩ => by rw [e, List.length_map, hl]) ?_ ?_
    · rintro i k acc H' hk ⟨rfl, ws, rfl, hl, hw⟩ kk hkk
      have hk' : k < 4 := List.mem_range.mp (List.mem_of_getElem? hk)
      refine ⟨_, rfl, _, rfl, _, _, rfl, hb, (by show (0 : Int) ≤ 0 + ((k : Nat) : Int); omega), (by show 0 + ((k : Nat) : Int) ≤ 100; omega), fun z hz => hkk _ _ ⟨rfl, ws ++ [z], by rw [List.map_append]; rfl, by rw [List.length_append, hl]; rfl, fun y hy => ?_⟩⟩
      rcases List.mem_append.mp hy with hy | hy
      · exact hw y hy
      · rw [List.mem_singleton.mp hy]; exact hz
    · rintro acc H' ⟨rfl, ws, rfl, hl, hw⟩ D hD
      rw [List.length_range] at hl
      have SD := same_upd (o := .lst (ws.map V.str)) hD
      obtain ⟨z, rs, rfl⟩ : ∃ z rs, ws = z :: rs := by
        cases ws with
        | nil => simp at hl
        | cons z rs => exact ⟨z, rs, rfl⟩
      have g : Good z := hw z (List.mem_cons_self ..)
      have glo := g.lo
      have ghi := g.hi
      have hm : (0 : Int) < (z.length : Int) := by omega
      have h0 := draw_lo c 61 hm
      have h1 := draw_hi c 61 hm
      obtain ⟨j, hj⟩ : ∃ j : Nat, drawD c 61 (z.length : Int) = (j : Int) := ⟨(drawD c 61 (z.length : Int)).toNat, by omega⟩
      obtain ⟨d, hd, ad⟩ := letter_at (mixD c 62 * (mixD c 62 + 5) % 170141183460469231731687303715884105727 / 7)
      have c1 : cutL z.cps.toList none (some (drawD c 61 (z.length : Int))) = z.cps.toList.take j := by rw [hj]; exact cutL_take _ j
      have c2 : cutL z.cps.toList (some (drawD c 61 (z.length : Int) + 1)) none = z.cps.toList.drop (j + 1) := by
        rw [hj, show ((j : Int) + 1) = ((j + 1 : Nat) : Int) by omega]; exact cutL_drop _ _
      have hz := clen z
      have l1 : (⟨#[d]⟩ : Str).length = 1 := rfl
      have s1 : (⟨(cutL z.cps.toList none (some (drawD c 61 (z.length : Int)))).toArray⟩ : Str).length + (⟨#[d]⟩ : Str).length ≤ sizeLine := by
        rw [c1, l1, mk_len, List.length_take]
        exact few (by omega)
      have s2 : ((⟨(cutL z.cps.toList none (some (drawD c 61 (z.length : Int)))).toArray⟩ : Str) ++ (⟨#[d]⟩ : Str)).length + (⟨(cutL z.cps.toList (some (drawD c 61 (z.length : Int) + 1)) none).toArray⟩ : Str).length ≤ sizeLine := by
        rw [app_len, c1, c2, l1, mk_len, mk_len, List.length_take, List.length_drop]
        exact few (by omega)
      have s3 : Good (((⟨(cutL z.cps.toList none (some (drawD c 61 (z.length : Int)))).toArray⟩ : Str) ++ (⟨#[d]⟩ : Str)) ++ (⟨(cutL z.cps.toList (some (drawD c 61 (z.length : Int) + 1)) none).toArray⟩ : Str)) := by
        rw [c1, c2]
        exact turned_good g (by omega) ad
      have uD : upd H' D (.lst ((z :: rs).map V.str)) D = some (.lst ((z :: rs).map V.str)) := upd_same
      have a0 : atI ((z :: rs).map V.str) 0 = some (.str z) := atI_nat (j := 0) rfl
      generalize upd H' D (.lst ((z :: rs).map V.str)) = H1 at SD uD
      refine ⟨_, rfl, _, rfl, D, _, _, _, rfl, rfl, SqL.of uD, a0, z, rfl, g.small, _, _, _, rfl, hb, (by show (0 : Int) ≤ 61; decide), (by show (61 : Int) ≤ 100000; decide), hm, ?_⟩
      refine ⟨_, rfl, _, _, _, rfl, hb, (by show (0 : Int) ≤ 62; decide), (by show (62 : Int) ≤ 100000; decide), (by show (0 : Int) < 26; decide), letters, _, d, rfl, rfl, (by decide +kernel), hd, ?_⟩
      refine ⟨_, rfl, _, rfl, D, _, _, _, rfl, rfl, SqL.of uD, a0, _, rfl, _, rfl, z, rfl, g.small, _, rfl, _, _, rfl, rfl, s1, _, rfl, D, _, _, _, rfl, rfl, SqL.of uD, a0, _, rfl, _, _, rfl, rfl, _, rfl, z, rfl, g.small, _, _, rfl, rfl, s2, few (by show 1 ≤ _; omega), fun l2 hl2 => ?_⟩
      have S2 := fun y => same_upd (o := .lst [.str y]) hl2
      refine ⟨D, l2, _, _, rfl, rfl, S2 _ _ _ uD, upd_same, (by rw [List.length_map, hl]; exact few (by show 4 + 1 ≤ _; omega)), fun l3 hl3 => ?_⟩
      have S3 := fun xs => same_upd (o := .lst xs) hl3
      have := q l3 ((z :: rs) ++ [_]) (SD.free ((S2 _).free hl3)) (by rw [List.length_append, hl]; rfl) (fun y hy => (List.mem_append.mp hy).elim (hw y) fun hy => by rw [List.mem_singleton.mp hy]; exact s3)
      exact hq _ _ (Rst.one ((SD.trans (S2 _)).trans (S3 _)) (SD.free ((S2 _).free hl3)) upd_same trivial (by rw [List.map_append] at this; exact this))
/-! ### a column by a cell -/
def spCol : Sp := fun vs H Q _ => ∃ (c : Int) (a : Addr) (m : Nat) (ws : List Str), vs = [.int c, .ref a, .int ((m : Nat) : Int)] ∧ Builtin.Int.intBits c ≤ 1048576 ∧ H a = some (.lst (ws.map V.str)) ∧ ws.length ≤ 100 ∧ (∀ z ∈ ws, Good z) ∧ 1 ≤ m ∧ m ≤ 100 ∧ ∀ (p : Addr) (es : List V), H p = none → es.length = m → (∀ e ∈ es, Ent e) → Q (.ref p) (upd H p (.tup es))
theorem scCol : FnScope ["cell", "pool", "many", "some", "column", "k", "entry"] ["cell", "pool", "many"] (defScope sCol) := ⟨rfl, rfl, rfl, by decide +kernel, rfl, by decide +kernel, by decide +kernel⟩
theorem some_at {ws : List Str} (hg : ∀ z ∈ ws, Good z) (c k : Int) : ∃ v, atI (ws.map V.str ++ [V.non]) (drawD c k ((ws.map V.str ++ [V.non]).length : Int)) = some v ∧ Ent v := by
  have hm : (0 : Int) < ((ws.map V.str ++ [V.non]).length : Int) := by rw [List.length_append]; show (0 : Int) < ((_ + 1 : Nat) : Int); omega
  have h0 := draw_lo c k hm
  have h1 := draw_hi c k hm
  obtain ⟨j, hj⟩ : ∃ j : Nat, drawD c k ((ws.map V.str ++ [V.non]).length : Int) = (j : Int) := ⟨(drawD c k ((ws.map V.str ++ [V.non]).length : Int)).toNat, by omega⟩
  have hjl : j < (ws.map V.str ++ [V.non]).length := by omega
  refine ⟨(ws.map V.str ++ [V.non])[j], by rw [hj]; exact atI_nat (List.getElem?_eq_getElem hjl), ?_⟩
  rcases List.mem_append.mp (List.getElem_mem hjl) with h | h
  · obtain ⟨z, hz, e⟩ := List.mem_map.mp h
    exact .inr ⟨z, hg z hz, e.symm⟩
  · exact .inl (List.mem_singleton.mp h)
theorem ok_col {f gD : Addr} {fd dD : FuncData} (F : Fun K "_law_column_by" "_law_column_by" sCol f fd) (DD : Dfn K mg "_law_draw" sDraw gD dD ["cell", "k", "many"]) (mrange : mg "range" = none) (mlen : mg "len" = none) (mtup : mg "tuple" = none) : FnOk P w K mg base CX0 2 f fd ["cell", "pool", "many"] spCol := by
  have GD : FnOk P w K mg base CX0 1 gD dD ["cell", "k", "many"] spDraw := ok_draw DD.fn
  refine Fun.okR F scCol (fun vs H Q E h => ?_) (fun cdv A outer s H vs Q Q2 E hr h hq => ?_)
  · obtain ⟨c, a, m, ws, rfl, _⟩ := h
    rfl
  · obtain ⟨c, a, m, ws, rfl, hb, ha, hwl, hg, m1, m2, q⟩ := h
    refine ⟨_, pss_cons (ps_set (i := 3) scCol.nd rfl (Or.inl rfl) (pe_op op_cat (pv 1) (pe_lst (pa_cons pe_non pa_nil))))
      (pss_cons (ps_set (i := 4) scCol.nd rfl (Or.inl rfl) (pe_lst (pa_cons (pe_ix ix_list (pv 3) (pe_call GD hr (by rfl) DD.at_ DD.fn.kp DD.bn .nil pass0 (pa_cons (pv 0) (pa_cons pe_int (pa_cons (pe_callB call_len_seq (by rfl) mlen PySem.boot_len (pa_cons (pv 3) pa_nil)) pa_nil)))) (fun _ _ => rfl)) pa_nil)))
      (pss_cons (ps_for PassesOwn.never rfl (pi_range2 (by rfl) mrange (pa_cons pe_int (pa_cons (pv 2) pa_nil))) (pg_name (i := 5) scCol.nd rfl (Or.inl rfl))
        (pss_cons (ps_set (i := 6) scCol.nd rfl (Or.inl rfl) (pe_ix ix_list (pv 4) pe_int (fun _ _ => rfl)))
        (pss_cons (ps_mid (ps_if (pt_cmpR op_eq (pe_call GD hr (by rfl) DD.at_ DD.fn.kp DD.bn .nil pass0 (pa_cons (pv 0) (pa_cons (pe_op op_add pe_int (pv 5)) (pa_cons pe_int pa_nil)))) pe_int (nomark _)) (pss_one (ps_set (i := 6) scCol.nd rfl (Or.inl rfl) (pe_ix ix_list (pv 3) (pe_call GD hr (by rfl) DD.at_ DD.fn.kp DD.bn .nil pass0 (pa_cons (pv 0) (pa_cons (pe_op op_add pe_int (pv 5)) (pa_cons (pe_callB call_len_seq (by rfl) mlen PySem.boot_len (pa_cons (pv 3) pa_nil)) pa_nil)))) (fun _ _ => rfl)))) pss_nil))
        (pss_one (ps_expr (pe_bm PySem.F.plainAttrs_list PySem.F.slot_list_append PySem.F.type_list_append mt_append (pv 4) (pa_cons (pv 6) pa_nil)))))))
      (pss_one (ps_ret (pe_callTy call_tuple_of (by rfl) mtup boot_tuple (pa_cons (pv 4) pa_nil)))))), ?_⟩
    refine ⟨_, rfl, few (by show 1 ≤ _; omega), fun l1 hl1 => ?_⟩
    have S1 := same_upd (o := .lst [V.non]) hl1
    refine ⟨a, l1, _, _, rfl, rfl, S1 _ _ ha, upd_same, (by rw [List.length_map]; exact few (by show _ + 1 ≤ _; omega)), fun l2 hl2 => ?_⟩
    have S2 := same_upd (o := .lst (ws.map V.str ++ [V.non])) hl2
    have hs : upd (upd H l1 (.lst [V.non])) l2 (.lst (ws.map V.str ++ [V.non])) l2 = some (.lst (ws.map V.str ++ [V.non])) := upd_same
    have S12 := S1.trans S2
    generalize upd (upd H l1 (.lst [V.non])) l2 (.lst (ws.map V.str ++ [V.non])) = H2 at S12 hs
    have hm : (0 : Int) < ((ws.map V.str ++ [V.non]).length : Int) := by rw [List.length_append]; show (0 : Int) < ((_ + 1 : Nat) : Int); omega
    obtain ⟨v0, a0, e0⟩ := some_at hg c 1
    refine ⟨_, rfl, _, rfl, _, rfl, l2, _, rfl, .inl (SqL.of hs), _, _, _, rfl, hb, (by show (0 : Int) ≤ 1; decide), (by show (1 : Int) ≤ 100000; decide), hm, l2, _, _, _, rfl, rfl, SqL.of hs, a0, few (by show 1 ≤ _; omega), fun l3 hl3 => ?_⟩
    have S3 := same_upd (o := .lst [v0]) hl3
    refine ⟨_, rfl, 1, ((m : Nat) : Int), rfl, ⟨by decide, by decide, by omega, by omega⟩, ?_⟩
    rw [show (((m : Nat) : Int) - 1).toNat = m - 1 by omega]
    refine for_range (fun i σ H4 => ∃ (es : List V) (v5 v6 : Option V), σ = [some (.int c), some (.ref a), some (.int ((m : Nat) : Int)), some (.ref l2), some (.ref l3), v5, v6] ∧ H4 l3 = some (.lst es) ∧ Same H2 H4 ∧ es.length = i + 1 ∧ ∀ e ∈ es, Ent e)
      ⟨[v0], none, none, rfl, upd_same, S3, rfl, fun e he => by rw [List.mem_singleton.mp he]; exact e0⟩ ?_ ?_
    · rintro i σ H4 hi ⟨es, v5, v6, rfl, h4, S4, hel, hE⟩
      obtain ⟨x0, xs, rfl⟩ : ∃ x0 xs, es = x0 :: xs := by
        cases es with
        | nil => simp at hel
        | cons x0 xs => exact ⟨x0, xs, rfl⟩
      have hs4 := S4 _ _ hs
      refine ⟨_, rfl, l3, _, _, _, rfl, rfl, SqL.of h4, atI_nat (j := 0) rfl, ?_⟩
      refine ⟨fun σ' H' => ∃ v : V, σ' = [some (.int c), some (.ref a), some (.int ((m : Nat) : Int)), some (.ref l2), some (.ref l3), some (.int (1 + ((i : Nat) : Int))), some v] ∧ H' = H4 ∧ Ent v, ?_, ?_⟩
      · refine ⟨_, rfl, _, rfl, _, _, rfl, rfl, _, _, _, rfl, hb, (by show (0 : Int) ≤ 20 + (1 + ((i : Nat) : Int)); omega), (by show 20 + (1 + ((i : Nat) : Int)) ≤ 100000; omega), (by show (0 : Int) < 3; decide), rfl, _, rfl, ?_⟩
        refine ite2 (fun _ => ?_) (fun _ => ⟨x0, rfl, rfl, hE _ (List.mem_cons_self ..)⟩)
        obtain ⟨v1, a1, e1⟩ := some_at hg c (60 + (1 + ((i : Nat) : Int)))
        exact ⟨_, rfl, _, rfl, _, rfl, _, _, rfl, rfl, _, rfl, l2, _, rfl, .inl (SqL.of hs4), _, _, _, rfl, hb, (by show (0 : Int) ≤ 60 + (1 + ((i : Nat) : Int)); omega), (by show 60 + (1 + ((i : Nat) : Int)) ≤ 100000; omega), hm, l2, _, _, _, rfl, rfl, SqL.of hs4, a1, v1, rfl, rfl, e1⟩
      · rintro σ' H' ⟨v, rfl, rfl, hv⟩
        refine ⟨_, rfl, .inl ⟨rfl, _, SqL.of h4⟩, _, rfl, l3, _, _, rfl, rfl, h4, (by rw [hel]; exact fewer (by omega)), (x0 :: xs) ++ [v], _, _, rfl, upd_same, same_to S4 hl3, by rw [List.length_append, hel]; rfl, fun e he => ?_⟩
        rcases List.mem_append.mp he with he | he
        · exact hE e he
        · rw [List.mem_singleton.mp he]; exact hv
    · rintro σ H4 ⟨es, v5, v6, rfl, h4, S4, hel, hE⟩
      refine ⟨_, rfl, l3, _, rfl, .inl ⟨SqL.of h4, fun p hp => ?_⟩⟩
      have S5 := same_upd (o := .tup es) hp
      have hn := S12.free (S4.free hp)
      exact hq _ _ (Rst.one ((S12.trans S4).trans S5) hn upd_same trivial (q p es hn (by omega) hE))
/-! ### what is the same -/
theorem FnOk.or2 {k : Nat} {f : Addr} {fd : FuncData} {ps : List Str} {sp1 sp2 sp : Sp} (F1 : FnOk P w K mg base CX0 k f fd ps sp1) (F2 : FnOk P w K mg base CX0 k f fd ps sp2) (h : ∀ vs H Q E, sp vs H Q E → sp1 vs H Q E ∨ sp2 vs H Q E) : FnOk P w K mg base CX0 k f fd ps sp :=
  ⟨fun vs H Q E hs => (h vs H Q E hs).elim (F1.len vs H Q E) (F2.len vs H Q E), fun A outer s H args us vs Q E hr he hb hv hs => (h vs H Q E hs).elim (fun z => F1.run A outer s H args us vs Q E hr he hb hv z) (fun z => F2.run A outer s H args us vs Q E hr he hb hv z)⟩
def SameV (H : Hp) : Nat → V → V → Prop
  | 0, x, y => (∃ z, x = .str z ∧ y = .str z) ∨ (∃ n, x = .int n ∧ y = .int n) ∨ (x = .non ∧ y = .non)
  | n + 1, x, y => SameV H n x y ∨ ∃ (p r : Addr) (xs ys : List V), x = .ref p ∧ y = .ref r ∧ H p = some (.tup xs) ∧ H r = some (.tup ys) ∧ xs.length = ys.length ∧ ys.length ≤ 100000 ∧ ∀ (i : Nat) (a b : V), xs[i]? = some a → ys[i]? = some b → SameV H n a b
def spSame (n : Nat) : Sp := fun vs H Q _ => ∃ x y, vs = [x, y] ∧ SameV H n x y ∧ Q (.bl true) H
def spSameT (n : Nat) : Sp := fun vs H Q _ => ∃ (p r : Addr) (xs ys : List V), vs = [.ref p, .ref r] ∧ H p = some (.tup xs) ∧ H r = some (.tup ys) ∧ xs.length = ys.length ∧ ys.length ≤ 100000 ∧ (∀ (i : Nat) (a b : V), xs[i]? = some a → ys[i]? = some b → SameV H n a b) ∧ Q (.bl true) H
theorem scSame : FnScope ["found", "due"] ["found", "due"] (defScope sSame) := ⟨rfl, rfl, rfl, by decide +kernel, rfl, by decide +kernel, by decide +kernel⟩
structure Kinds (K : PySem.W.Frag) : Prop where
  st : PySem.W.kitOne K (.type "str") (.type "tuple") = some false
  it : PySem.W.kitOne K (.type "int") (.type "tuple") = some false
  is_ : PySem.W.kitOne K (.type "int") (.type "str") = some false
  ib : PySem.W.kitOne K (.type "int") (.type "bool") = some false
  nt : PySem.W.kitOne K (.type "NoneType") (.type "tuple") = some false
theorem nd_kfd : (["k", "found", "due"] : List Str).Nodup := by decide +kernel
theorem ok_same0 {f : Addr} {fd : FuncData} (F : Fun K "_law_same" "_law_same" sSame f fd) (misi : mg "isinstance" = none) (mtup : mg "tuple" = none) (mstr : mg "str" = none) (mint : mg "int" = none) (mbool : mg "bool" = none) (kk : Kinds K) : FnOk P w K mg base CX0 1 f fd ["found", "due"] (spSame 0) := by
  refine Fun.okR F scSame (fun vs H Q E h => ?_) (fun cdv A outer s H vs Q Q2 E hr h hq => ?_)
  · obtain ⟨x, y, rfl, _⟩ := h
    rfl
  · obtain ⟨x, y, rfl, hs, q⟩ := h
    refine ⟨_, pss_cons (ps_if (pt_val (pe_callB call_isi (by rfl) misi boot_isinstance (pa_cons (pv 1) (pa_cons (pe_bltn (v := .ty "tuple") (by rfl) mtup boot_tuple rfl) pa_nil)))) pss_never pss_nil)
      (pss_cons (ps_if (pt_cmpR op_isN (pv 1) pe_non (nomark _)) (pss_one (ps_ret (pe_cmpR op_isN (pv 0) pe_non (nomark _)))) pss_nil)
      (pss_cons (ps_if (pt_val (pe_callB call_isi (by rfl) misi boot_isinstance (pa_cons (pv 1) (pa_cons (pe_bltn (v := .ty "str") (by rfl) mstr boot_str rfl) pa_nil)))) (pss_one (ps_ret (pe_and (pe_callB call_isi (by rfl) misi boot_isinstance (pa_cons (pv 0) (pa_cons (pe_bltn (v := .ty "str") (by rfl) mstr boot_str rfl) pa_nil))) (pe_one (pe_cmpR op_eq (pv 0) (pv 1) (nomark _)))))) pss_nil)
      (pss_one (ps_ret (pe_and (pe_callB call_isi (by rfl) misi boot_isinstance (pa_cons (pv 0) (pa_cons (pe_bltn (v := .ty "int") (by rfl) mint boot_int rfl) pa_nil))) (pe_and (pe_not (pe_callB call_isi (by rfl) misi boot_isinstance (pa_cons (pv 0) (pa_cons (pe_bltn (v := .ty "bool") (by rfl) mbool boot_bool rfl) pa_nil)))) (pe_one (pe_cmpR op_eq (pv 0) (pv 1) (nomark _))))))))), ?_⟩
    have go : Q2 (.bl true) H := hq _ _ (Rst.same (Same.refl H) q)
    rcases hs with ⟨z, rfl, rfl⟩ | ⟨n, rfl, rfl⟩ | ⟨rfl, rfl⟩
    · refine ⟨_, rfl, _, _, _, _, rfl, .str _, kk.st, _, rfl, iteF ?_⟩
      refine ⟨_, rfl, rfl, _, rfl, iteK (fun z => nomatch z) ?_⟩
      refine ⟨_, rfl, _, _, _, _, rfl, .str _, kit_same _, _, rfl, iteT ?_⟩
      refine ⟨_, rfl, _, _, _, _, rfl, .str _, kit_same _, true, rfl, iteT ⟨_, rfl, _, rfl, rfl, ?_⟩⟩
      rw [decide_eq_true rfl]
      exact go
    · refine ⟨_, rfl, _, _, _, _, rfl, .int _, kk.it, _, rfl, iteF ?_⟩
      refine ⟨_, rfl, rfl, _, rfl, iteK (fun z => nomatch z) ?_⟩
      refine ⟨_, rfl, _, _, _, _, rfl, .int _, kk.is_, _, rfl, iteF ?_⟩
      refine ⟨_, rfl, _, _, _, _, rfl, .int _, kit_same _, true, rfl, iteT ?_⟩
      refine ⟨_, rfl, _, _, _, _, rfl, .int _, kk.ib, false, rfl, true, rfl, iteT ⟨_, rfl, _, rfl, rfl, ?_⟩⟩
      rw [decide_eq_true rfl]
      exact go
    · refine ⟨_, rfl, _, _, _, _, rfl, .non, kk.nt, _, rfl, iteF ?_⟩
      refine ⟨_, rfl, rfl, _, rfl, iteY rfl ⟨_, rfl, rfl, ?_⟩⟩
      rw [decide_eq_true rfl]
      exact go
theorem ok_sameT {n : Nat} {f : Addr} {fd : FuncData} (F : Fun K "_law_same" "_law_same" sSame f fd) (D : Dfn K mg "_law_same" sSame f fd ["found", "due"]) (G : FnOk P w K mg base CX0 (n + 1) f fd ["found", "due"] (spSame n)) (misi : mg "isinstance" = none) (mtup : mg "tuple" = none) (mlen : mg "len" = none) (mrange : mg "range" = none) (mall : mg "all" = none) (kk : Kinds K) : FnOk P w K mg base CX0 (n + 2) f fd ["found", "due"] (spSameT n) := by
  refine Fun.okR F scSame (fun vs H Q E h => ?_) (fun cdv A outer s H vs Q Q2 E hr h hq => ?_)
  · obtain ⟨p, r, xs, ys, rfl, _⟩ := h
    rfl
  · obtain ⟨p, r, xs, ys, rfl, hp, hr2, hl, hn, hs, q⟩ := h
    refine ⟨_, pss_cons (ps_if (pt_val (pe_callB call_isi (by rfl) misi boot_isinstance (pa_cons (pv 1) (pa_cons (pe_bltn (v := .ty "tuple") (by rfl) mtup boot_tuple rfl) pa_nil)))) (pss_cons (ps_if (pw_or (pt_not (pt_val (pe_callB call_isi (by rfl) misi boot_isinstance (pa_cons (pv 0) (pa_cons (pe_bltn (v := .ty "tuple") (by rfl) mtup boot_tuple rfl) pa_nil))))) (pw_or1 (pt_cmpR op_ne (pe_callB call_len_seq (by rfl) mlen PySem.boot_len (pa_cons (pv 0) pa_nil)) (pe_callB call_len_seq (by rfl) mlen PySem.boot_len (pa_cons (pv 1) pa_nil)) (nomark _)))).pt (pss_one (ps_ret pe_bl)) pss_nil)
      (pss_one (ps_ret (pe_callB (call_all rfl) (by rfl) mall boot_all (pa_cons (pe_comp (Nc := ["k", "found", "due"]) (mp := [none, some 0, some 1]) rfl (CompOk.of (by rfl)) (pi_range1 (by rfl) mrange (pa_cons (pe_callB call_len_seq (by rfl) mlen PySem.boot_len (pa_cons (pv 1) pa_nil)) pa_nil))
        (fun cl C s H fp => ⟨pg_name (i := 0) nd_kfd rfl (Or.inl rfl), pts_nil, pe_call G hr (by rfl) D.at_ D.fn.kp D.bn .nil pass0 (pa_cons (pe_ix (ix_tupK (K := K) rfl) (pv 1) (pv 0) (fun _ _ => rfl)) (pa_cons (pe_ix (ix_tupK (K := K) rfl) (pv 2) (pv 0) (fun _ _ => rfl)) pa_nil))⟩)) pa_nil))))) pss_nil) pss_never, ?_⟩
    refine ⟨_, rfl, _, _, _, _, rfl, .tup hr2, kit_same _, _, rfl, iteT ?_⟩
    refine ⟨_, rfl, _, _, _, _, rfl, .tup hp, kit_same _, _, rfl, iteF ?_⟩
    refine ⟨_, rfl, p, _, rfl, .inr (SqT.of hp), _, rfl, r, _, rfl, .inr (SqT.of hr2), rfl, _, rfl, iteNS (by rw [hl]) ?_⟩
    refine ⟨_, rfl, r, _, rfl, .inr (SqT.of hr2), _, rfl, (by omega), (by omega), ?_⟩
    rw [Int.toNat_natCast]
    refine comp_map (as := List.range ys.length) (v := fun k => .int (0 + ((k : Nat) : Int))) (fun _ => .bl true) (src_range 0 _ H) (by rw [List.length_range]; exact few hn) (fun i hi kc hk => ?_) (fun D hD => ?_)
    · have hi := List.mem_range.mp hi
      have ei : (0 : Int) + ((i : Nat) : Int) = ((i : Nat) : Int) := by omega
      rw [ei]
      have hx : i < xs.length := by omega
      have e1 : atI xs ((i : Nat) : Int) = some xs[i] := atI_nat (List.getElem?_eq_getElem hx)
      have e2 : atI ys ((i : Nat) : Int) = some ys[i] := atI_nat (List.getElem?_eq_getElem hi)
      exact ⟨_, rfl, _, rfl, p, _, _, _, rfl, rfl, SqT.of hp, e1, _, rfl, _, rfl, r, _, _, _, rfl, rfl, SqT.of hr2, e2, _, _, rfl, hs i _ _ (List.getElem?_eq_getElem hx) (List.getElem?_eq_getElem hi), hk⟩
    · have hm : (List.range ys.length).map (fun _ => V.bl true) = (List.replicate ys.length true).map V.bl := by
        rw [List.map_replicate]
        exact List.eq_replicate_iff.mpr ⟨by rw [List.length_map, List.length_range], fun b hb => by obtain ⟨_, _, e⟩ := List.mem_map.mp hb; exact e.symm⟩
      refine ⟨D, List.replicate ys.length true, rfl, SqL.of (by rw [upd_same, hm]), ?_⟩
      have ht : (List.replicate ys.length true).all id = true := List.all_eq_true.mpr fun b hb => by rw [List.eq_of_mem_replicate hb]; rfl
      rw [ht]
      exact hq _ _ (Rst.same (same_upd hD) q)
theorem ok_same {f : Addr} {fd : FuncData} (F : Fun K "_law_same" "_law_same" sSame f fd) (D : Dfn K mg "_law_same" sSame f fd ["found", "due"]) (misi : mg "isinstance" = none) (mtup : mg "tuple" = none) (mstr : mg "str" = none) (mint : mg "int" = none) (mbool : mg "bool" = none) (mlen : mg "len" = none) (mrange : mg "range" = none) (mall : mg "all" = none) (kk : Kinds K) : ∀ n : Nat, FnOk P w K mg base CX0 (n + 1) f fd ["found", "due"] (spSame n)
  | 0 => ok_same0 F misi mtup mstr mint mbool kk
  | n + 1 => by
    have G := ok_same F D misi mtup mstr mint mbool mlen mrange mall kk n
    refine FnOk.or2 (G.mono (by omega)) (ok_sameT F D G misi mtup mlen mrange mall kk) fun vs H Q E h => ?_
    obtain ⟨x, y, rfl, hs, q⟩ := h
    rcases hs with h | ⟨p, r, xs, ys, rfl, rfl, h⟩
    · exact .inl ⟨x, y, rfl, h, q⟩
    · exact .inr ⟨p, r, xs, ys, rfl, h.1, h.2.1, h.2.2.1, h.2.2.2.1, h.2.2.2.2, q⟩
/-! ### the law's readings -/
theorem nd_rce : (["row", "column", "entry"] : List Str).Nodup := by decide +kernel
theorem ent_eqV {x y : V} (h : Ent x) (h2 : Ent y) : eqV x y = decide (x = y) := by
  rcases h with rfl | ⟨z, _, rfl⟩ <;> rcases h2 with rfl | ⟨u, _, rfl⟩
  · rfl
  · rfl
  · rfl
  · show decide (z = u) = decide (V.str z = V.str u)
    by_cases e : z = u
    · subst e; rw [decide_eq_true rfl, decide_eq_true rfl]
    · rw [decide_eq_false e, decide_eq_false (fun q => e (V.str.inj q))]
theorem ent_inV {x : V} {us : List V} (hx : Ent x) (hU : ∀ e ∈ us, Ent e) : inV x us = decide (x ∈ us) := by
  unfold inV
  rw [Bool.eq_iff_iff, decide_eq_true_iff, List.any_eq_true]
  constructor
  · rintro ⟨y, hy, e⟩
    rw [ent_eqV (hU y hy) hx, decide_eq_true_iff] at e
    exact e ▸ hy
  · intro h
    exact ⟨x, h, by rw [ent_eqV hx hx]; exact decide_eq_true rfl⟩
def spRd : Sp := fun vs H Q _ => ∃ (p : Addr) (es : List V), vs = [.ref p] ∧ H p = some (.tup es) ∧ (∀ e ∈ es, Ent e) ∧ 1 ≤ es.length ∧ es.length ≤ 30 ∧
  ∀ (H' : Hp) (r : Addr) (xs : List (Addr × Rdg)), Same H H' → H' r = some (.tup (xs.map fun y => V.ref y.1)) → (∀ y ∈ xs, RdgAt H' y.1 y.2) → (xs.map fun y => y.2) = rdgsOf es → Q (.ref r) H'
theorem scRd : FnScope ["column", "entries", "entry", "found"] ["column"] (defScope sRd) := ⟨rfl, rfl, rfl, by decide +kernel, rfl, by decide +kernel, by decide +kernel⟩
theorem ok_rd {f : Addr} {fd : FuncData} (F : Fun K "_law_readings_of" "_law_readings_of" sRd f fd) (mlen : mg "len" = none) (mrange : mg "range" = none) (mtup : mg "tuple" = none) : FnOk P w K mg base CX0 1 f fd ["column"] spRd := by
  refine F.ok scRd (fun vs H Q E h => ?_) (fun cdv A outer s H vs Q E hr h => ?_)
  · obtain ⟨p, es, rfl, _⟩ := h
    rfl
  · obtain ⟨p, es, rfl, hp, hE, h1, h30, q⟩ := h
    refine ⟨_, pss_cons (ps_set (i := 1) scRd.nd rfl (Or.inl rfl) (pe_lst pa_nil))
      (pss_cons (ps_for PassesOwn.never rfl (pi_tup (pv 0)) (pg_name (i := 2) scRd.nd rfl (Or.inr rfl))
        (pss_one (ps_if (pw_and (pt_cmpR op_ne (pv 2) (pe_ix ix_tup (pv 0) pe_int (fun _ _ => rfl)) (nomark _)) (pw_and1 (pt_cmpR op_notIn_seq (pv 2) (pv 1) (by with_unfolding_all rfl)))).pt (pss_one (ps_expr (pe_bm PySem.F.plainAttrs_list PySem.F.slot_list_append PySem.F.type_list_append mt_append (pv 1) (pa_cons (pv 2) pa_nil)))) pss_nil)))
      (pss_cons (ps_set (i := 3) scRd.nd rfl (Or.inl rfl) (pe_lst pa_nil))
      (pss_cons (ps_for PassesOwn.never rfl (pi_list (pv 1)) (pg_name (i := 2) scRd.nd rfl (Or.inr rfl))
        (pss_one (ps_expr (pe_bm PySem.F.plainAttrs_list PySem.F.slot_list_append PySem.F.type_list_append mt_append (pv 3) (pa_cons (pe_tup (pa_cons (pv 2) (pa_cons (pe_callTy call_tuple_of (by rfl) mtup boot_tuple (pa_cons (pe_comp (Nc := ["row", "column", "entry"]) (mp := [none, some 0, some 2]) rfl (CompOk.of (by rfl)) (pi_range1 (by rfl) mrange (pa_cons (pe_callB call_len_seq (by rfl) mlen PySem.boot_len (pa_cons (pv 0) pa_nil)) pa_nil))
          (fun cl C s H fp => ⟨pg_name (i := 0) nd_rce rfl (Or.inl rfl), pts_one (pt_cmpR op_eq (pe_ix (ix_tupK (K := K) rfl) (pv 1) (pv 0) (fun _ _ => rfl)) (pv 2) (nomark _)), pv 0⟩)) pa_nil)) pa_nil))) pa_nil)))))
      (pss_one (ps_ret (pe_callTy call_tuple_of (by rfl) mtup boot_tuple (pa_cons (pv 3) pa_nil))))))), ?_⟩
    have h0 : atI es 0 = some (es.getD 0 .non) := atI_nat (j := 0) (by rw [List.getD_eq_getElem?_getD, List.getElem?_eq_getElem (by omega)]; rfl)
    have hE0 : Ent (es.getD 0 .non) := by rw [List.getD_eq_getElem?_getD, List.getElem?_eq_getElem (by omega)]; exact hE _ (List.getElem_mem _)
    refine ⟨Nat.zero_le _, fun l hl => ?_⟩
    have S0 := same_upd (o := .lst []) hl
    have hp0 := S0 _ _ hp
    refine ⟨_, rfl, p, rfl, ⟨_, SqT.of hp0⟩, for_tup (K := K) (a := p) (xs := es) (fun i σ H2 => ∃ (v2 v3 : Option V), σ = [some (.ref p), some (.ref l), v2, v3] ∧ H2 l = some (.lst (entTo es i)) ∧ Same H H2)
      ⟨none, none, rfl, upd_same, S0⟩ (fun i σ H2 _ ⟨_, _, _, _, S⟩ => SqT.of (S _ _ hp)) ?_ ?_⟩
    · rintro i x σ H2 hi ⟨v2, v3, rfl, h2, S2⟩
      have hx : Ent x := hE x (List.mem_of_getElem? hi)
      have hi' : i < es.length := (List.getElem?_eq_some_iff.mp hi).1
      have hU : ∀ e ∈ entTo es i, Ent e := fun e he => hE e (entTo_mem i he).1
      have hul := entTo_len es i
      have est := entTo_step hi
      unfold entStep at est
      refine ⟨_, rfl, _, rfl, p, _, _, _, rfl, rfl, SqT.of (S2 _ _ hp), h0, ent_scal hx hE0, _, rfl, ?_⟩
      by_cases c : x = es.getD 0 .non
      · rw [if_pos c] at est
        rw [decide_eq_true (show x = es.getD 0 .non from c)]
        exact iteF ⟨_, _, rfl, by rw [est]; exact h2, S2⟩
      rw [if_neg c] at est
      rw [decide_eq_false (show ¬ x = es.getD 0 .non from c)]
      refine iteT ?_
      refine ⟨_, rfl, _, rfl, l, _, rfl, .inl (SqL.of h2), ent_flat hx, List.all_eq_true.mpr (fun e he => ent_flat (hU e he)), _, rfl, ?_⟩
      show ite ((!inV x (entTo es i)) = true) _ _
      rw [ent_inV hx hU]
      by_cases c2 : x ∈ entTo es i
      · rw [if_pos c2] at est
        rw [decide_eq_true c2]
        exact iteF ⟨_, _, rfl, by rw [est]; exact h2, S2⟩
      rw [if_neg c2] at est
      rw [decide_eq_false c2]
      refine iteT ?_
      exact ⟨_, rfl, .inl ⟨rfl, _, SqL.of h2⟩, _, rfl, l, _, _, rfl, rfl, h2, fewer (by omega), _, _, rfl, by rw [upd_same, est], same_to S2 hl⟩
    · rintro σ H2 ⟨v2, v3, rfl, h2, S2⟩
      have hul := entTo_len es es.length
      have hU : ∀ e ∈ entTo es es.length, Ent e := fun e he => hE e (entTo_mem _ he).1
      have hok : ∀ x ∈ entTo es es.length, RdgOk (x, rowsTo es x es.length) := fun x hx => rdgs_ok hE h30 hx
      have hrd : rdgsOf es = (entTo es es.length).map fun x => (x, rowsTo es x es.length) := rfl
      generalize entTo es es.length = us at h2 hul hU hok hrd
      refine ⟨Nat.zero_le _, fun m hm => ?_⟩
      have S3 := same_upd (o := .lst []) hm
      have hu3 := S3 _ _ h2
      have hmn := S2.free hm
      have hml : l ≠ m := ne_of_none h2 hm
      refine ⟨_, rfl, l, rfl, ⟨_, SqL.of hu3⟩, for_list (K := K) (a := l) (xs := us) (fun i σ H4 => ∃ (xs : List (Addr × Rdg)) (v2 : Option V), σ = [some (.ref p), some (.ref l), v2, some (.ref m)] ∧ H4 m = some (.lst (xs.map fun y => V.ref y.1)) ∧ H4 l = some (.lst us) ∧ Same H H4 ∧ (xs.map fun y => y.2) = (us.take i).map (fun x => (x, rowsTo es x es.length)) ∧ ∀ y ∈ xs, RdgAt H4 y.1 y.2)
        ⟨[], v2, rfl, upd_same, hu3, S2.trans S3, rfl, fun _ z => nomatch z⟩ (fun i σ H4 _ ⟨_, _, _, _, h, _⟩ => SqL.of h) ?_ ?_⟩
      · rintro i x σ H4 hi ⟨xs, v2, rfl, h4, hl4, S4, hxe, hX⟩
        have hxm := List.mem_of_getElem? hi
        have hx : Ent x := hU x hxm
        have hi' : i < us.length := (List.getElem?_eq_some_iff.mp hi).1
        have hxl : xs.length ≤ i := by
          have := congrArg List.length hxe
          rw [List.length_map, List.length_map, List.length_take] at this
          omega
        have hp4 := S4 _ _ hp
        refine ⟨_, rfl, .inl ⟨rfl, _, SqL.of h4⟩, _, rfl, _, rfl, p, _, rfl, .inr (SqT.of hp4), _, rfl, by omega, by omega, ?_⟩
        rw [Int.toNat_natCast]
        refine comp_pure (as := List.range es.length) (v := fun k => .int (0 + ((k : Nat) : Int))) (fun k => decide (es.getD k .non = x)) (fun k => .int (0 + ((k : Nat) : Int))) (src_range 0 _ H4) (by rw [List.length_range]; exact few (by omega)) (fun k hk kc hkc => ?_) (fun k hk _ kc hkc => ⟨_, rfl, hkc⟩) fun D hD => ?_
        · have hk' := List.mem_range.mp hk
          have ek : (0 : Int) + ((k : Nat) : Int) = ((k : Nat) : Int) := by omega
          rw [ek]
          have e1 : atI es ((k : Nat) : Int) = some (es.getD k .non) := atI_nat (by rw [List.getD_eq_getElem?_getD, List.getElem?_eq_getElem hk']; rfl)
          refine ⟨_, rfl, _, rfl, p, _, _, _, rfl, rfl, SqT.of hp4, e1, _, rfl, ent_scal (hE _ ?_) hx, _, rfl, hkc⟩
          rw [List.getD_eq_getElem?_getD, List.getElem?_eq_getElem hk']
          exact List.getElem_mem hk'
        · have hrl := (hok x hxm).2.1
          have em : ((List.range es.length).filter (fun k => decide (es.getD k .non = x))).map (fun k => V.int (0 + ((k : Nat) : Int))) = (rowsTo es x es.length).map natV := by
            refine List.map_congr_left fun k _ => ?_
            show V.int (0 + ((k : Nat) : Int)) = V.int ((k : Nat) : Int)
            rw [Int.zero_add]
          rw [em]
          have hok' := hok x hxm
          have etk : (us.take (i + 1)).map (fun x => (x, rowsTo es x es.length)) = (us.take i).map (fun x => (x, rowsTo es x es.length)) ++ [(x, rowsTo es x es.length)] := by
            rw [List.take_add_one, hi, List.map_append]
            rfl
          generalize rowsTo es x es.length = rows at hrl hok' etk
          have S5 := same_upd (o := .lst (rows.map natV)) hD
          refine ⟨D, _, rfl, .inl ⟨SqL.of upd_same, fun t6 ht6 => ?_⟩⟩
          have S6 := same_upd (o := .tup (rows.map natV)) ht6
          refine ⟨few (by show 2 ≤ _; omega), fun t7 ht7 => ?_⟩
          have S7 := same_upd (o := .tup [x, .ref t6]) ht7
          have S57 := (S5.trans S6).trans S7
          have h7 : upd (upd (upd H4 D (.lst (rows.map natV))) t6 (.tup (rows.map natV))) t7 (.tup [x, .ref t6]) t7 = some (.tup [x, .ref t6]) := upd_same
          have h76 := S7 _ _ (upd_same (H := upd H4 D (.lst (rows.map natV))) (a := t6) (o := .tup (rows.map natV)))
          generalize upd (upd (upd H4 D (.lst (rows.map natV))) t6 (.tup (rows.map natV))) t7 (.tup [x, .ref t6]) = H7 at S57 h7 h76
          have hm7 := S57 _ _ h4
          have hl7 := S57 _ _ hl4
          have keep : ∀ {a : Addr} {ys zs : List V}, H7 a = some (.tup ys) → upd H7 m (.lst zs) a = some (.tup ys) := fun {a ys zs} h => by
            rw [upd_ne (ne_of h hm7 (by intro z; cases z))]; exact h
          have kr : ∀ {a : Addr} {y : Rdg} {zs : List V}, RdgAt H7 a y → RdgAt (upd H7 m (.lst zs)) a y := fun {a y zs} h => by
            obtain ⟨ho, r, h1, h2⟩ := h
            exact ⟨ho, r, keep h1, keep h2⟩
          refine ⟨m, _, _, rfl, rfl, hm7, (by rw [List.length_map]; exact fewer (by omega)), xs ++ [(t7, (x, rows))], _, rfl, by rw [upd_same, List.map_append]; rfl, by rw [upd_ne hml]; exact hl7, same_to (S4.trans S57) hmn, by rw [etk, List.map_append, hxe]; rfl, fun y hy => ?_⟩
          rcases List.mem_append.mp hy with hy | hy
          · exact kr ((hX y hy).mono S57)
          · rw [List.mem_singleton.mp hy]
            exact kr ⟨hok', t6, h7, h76⟩
      · rintro σ H4 ⟨xs, v2, rfl, h4, hl4, S4, hxe, hX⟩
        refine ⟨_, rfl, m, _, rfl, .inl ⟨SqL.of h4, fun r hr' => ?_⟩⟩
        have S5 := same_upd (o := .tup (xs.map fun y => V.ref y.1)) hr'
        exact q _ r xs (S4.trans S5) upd_same (fun y hy => (hX y hy).mono S5) (by rw [hxe, List.take_length, hrd])
/-! ### the law's notes -/
def pureC (cs : List (Addr × List V)) : List (List V) := cs.map fun x => x.2
theorem pureC_at {cs : List (Addr × List V)} {i : Nat} (hi : i < cs.length) : (pureC cs).getD i [] = cs[i].2 := by
  unfold pureC
  rw [List.getD_eq_getElem?_getD, List.getElem?_map, List.getElem?_eq_getElem hi]
  rfl
def spNts (K : PySem.W.Frag) : Sp := fun vs H Q _ => ∃ (p : Addr) (cs : List (Addr × List V)) (m : Nat), vs = [.ref p] ∧ SqT K H p (cs.map fun x => V.ref x.1) ∧ ColsAt H cs m ∧ 1 ≤ m ∧ m ≤ 30 ∧ cs.length ≤ 1200 ∧
  ∀ (H' : Hp) (r : Addr) (ns : List (Addr × Note)), Same H H' → H' r = some (.tup (ns.map fun y => V.ref y.1)) → (∀ y ∈ ns, NoteAt H' y.1 y.2) → (ns.map fun y => toldN y.2) = notesTo (pureC cs) cs.length → Q (.ref r) H'
theorem scNts : FnScope ["columns", "found", "number", "readings"] ["columns"] (defScope sNts) := ⟨rfl, rfl, rfl, by decide +kernel, rfl, by decide +kernel, by decide +kernel⟩
theorem eqs_empty {K : PySem.W.Frag} {H : Hp} {p r : Addr} {as : List V} (h1 : H p = some (.tup as)) (h2 : H r = some (.tup [])) : EqS K H 0 (.ref p) (.ref r) (decide (as = [])) := by
  refine ⟨p, r, _, _, fun _ => true, rfl, rfl, .inr ⟨SqT.of h1, SqT.of h2⟩, fun i x y _ hy => by simp at hy, ?_⟩
  cases as with
  | nil => rfl
  | cons a t => rfl
theorem notesTo_len (cs : List (List V)) (n : Nat) : (notesTo cs n).length ≤ n := by
  unfold notesTo
  exact Nat.le_trans (List.length_filter_le _ _) (by rw [List.length_map, List.length_range]; exact Nat.le_refl _)
theorem rdgsOf_len (es : List V) : (rdgsOf es).length ≤ es.length := by
  unfold rdgsOf
  rw [List.length_map]
  exact entTo_len es es.length
theorem ok_nts {f gR : Addr} {fd dR : FuncData} (F : Fun K "_law_notes_of" "_law_notes_of" sNts f fd) (DR : Dfn K mg "_law_readings_of" sRd gR dR ["column"]) (mlen : mg "len" = none) (mrange : mg "range" = none) (mtup : mg "tuple" = none) : FnOk P w K mg base CX0 2 f fd ["columns"] (spNts K) := by
  have GR : FnOk P w K mg base CX0 1 gR dR ["column"] spRd := ok_rd DR.fn mlen mrange mtup
  refine F.ok scNts (fun vs H Q E h => ?_) (fun cdv A outer s H vs Q E hr h => ?_)
  · obtain ⟨p, cs, m, rfl, _⟩ := h
    rfl
  · obtain ⟨p, cs, m, rfl, hp, hC, m1, m30, hcl, q⟩ := h
    refine ⟨_, pss_cons (ps_set (i := 1) scNts.nd rfl (Or.inl rfl) (pe_lst pa_nil))
      (pss_cons (ps_for PassesOwn.never rfl (pi_range1 (by rfl) mrange (pa_cons (pe_callB call_len_seq (by rfl) mlen PySem.boot_len (pa_cons (pv 0) pa_nil)) pa_nil)) (pg_name (i := 2) scNts.nd rfl (Or.inl rfl))
        (pss_cons (ps_set (i := 3) scNts.nd rfl (Or.inl rfl) (pe_call GR hr (by rfl) DR.at_ DR.fn.kp DR.bn .nil pass0 (pa_cons (pe_ix ix_tup (pv 0) (pv 2) (fun _ _ => rfl)) pa_nil)))
        (pss_one (ps_if (pt_cmpR (op_neS hr.units) (pv 3) (pe_tup pa_nil) (nomark _)) (pss_one (ps_expr (pe_bm PySem.F.plainAttrs_list PySem.F.slot_list_append PySem.F.type_list_append mt_append (pv 1) (pa_cons (pe_tup (pa_cons (pv 2) (pa_cons (pv 3) pa_nil))) pa_nil)))) pss_nil))))
      (pss_one (ps_ret (pe_callTy call_tuple_of (by rfl) mtup boot_tuple (pa_cons (pv 1) pa_nil))))), ?_⟩
    refine ⟨Nat.zero_le _, fun l hl => ?_⟩
    have S0 := same_upd (o := .lst []) hl
    refine ⟨_, rfl, p, _, rfl, .inr (sameT S0 hp), _, rfl, by omega, by rw [List.length_map]; omega, ?_⟩
    rw [Int.toNat_natCast, List.length_map]
    refine for_range (n := cs.length) (fun i σ H2 => ∃ (ns : List (Addr × Note)) (v2 v3 : Option V), σ = [some (.ref p), some (.ref l), v2, v3] ∧ H2 l = some (.lst (ns.map fun y => V.ref y.1)) ∧ Same H H2 ∧ (ns.map fun y => toldN y.2) = notesTo (pureC cs) i ∧ ∀ y ∈ ns, NoteAt H2 y.1 y.2)
      ⟨[], none, none, rfl, upd_same, S0, rfl, fun _ z => nomatch z⟩ ?_ ?_
    · rintro i σ H2 hi ⟨ns, v2, v3, rfl, h2, S2, hne, hN⟩
      have ei : (0 : Int) + ((i : Nat) : Int) = ((i : Nat) : Int) := by omega
      rw [ei]
      have hnl : ns.length ≤ i := by
        have h1 := congrArg List.length hne
        rw [List.length_map] at h1
        have h2 := notesTo_len (pureC cs) i
        omega
      have hm := List.getElem_mem hi
      obtain ⟨hc1, hc2, hc3⟩ := (hC.mono S2) cs[i] hm
      have est := notesTo_step (pureC cs) i
      rw [pureC_at hi] at est
      have ea : atI (cs.map fun x => V.ref x.1) ((i : Nat) : Int) = some (.ref cs[i].1) := atI_nat (by rw [List.getElem?_map, List.getElem?_eq_getElem hi]; rfl)
      refine ⟨_, rfl, _, rfl, p, _, _, _, rfl, rfl, sameT S2 hp, ea, cs[i].1, cs[i].2, rfl, hc1, hc3, by omega, by omega, fun H3 r xs S3 h3 hX hxe => ?_⟩
      have hxl : xs.length ≤ 30 := by
        have h1 := congrArg List.length hxe
        rw [List.length_map] at h1
        have h2 := rdgsOf_len cs[i].2
        omega
      refine ⟨_, rfl, Nat.zero_le _, fun t ht => ⟨0, _, by decide, eqs_empty ((same_upd ht) _ _ h3) upd_same, _, rfl, ?_⟩⟩
      have S4 := same_upd (o := .tup []) ht
      have S24 := S3.trans S4
      have h34 := S4 _ _ h3
      have hX4 : ∀ y ∈ xs, RdgAt (upd H3 t (.tup [])) y.1 y.2 := fun y hy => (hX y hy).mono S4
      generalize upd H3 t (.tup []) = H4 at S4 S24 h34 hX4
      have hl4 := S24 _ _ h2
      have hN4 : ∀ y ∈ ns, NoteAt H4 y.1 y.2 := fun y hy => (hN y hy).mono S24
      rw [← hxe] at est
      by_cases c : xs = []
      · rw [c, List.map_nil, if_pos rfl, List.append_nil] at est
        rw [decide_eq_true (show (xs.map fun y => V.ref y.1) = [] by rw [c]; rfl)]
        exact iteF ⟨ns, _, _, rfl, hl4, S2.trans S24, by rw [est]; exact hne, hN4⟩
      rw [if_neg (fun z => c (List.map_eq_nil_iff.mp z))] at est
      rw [decide_eq_false (fun z => c (List.map_eq_nil_iff.mp z))]
      refine iteT ?_
      refine ⟨_, rfl, .inl ⟨rfl, _, SqL.of hl4⟩, _, rfl, _, rfl, few (by show 2 ≤ _; omega), fun t5 ht5 => ?_⟩
      have S5 := same_upd (o := .tup [.int ((i : Nat) : Int), .ref r]) ht5
      have h5 : upd H4 t5 (.tup [.int ((i : Nat) : Int), .ref r]) t5 = some (.tup [natV i, .ref r]) := upd_same
      have S25 := (S2.trans S24).trans S5
      have hl5 := S5 _ _ hl4
      have h35 := S5 _ _ h34
      have hN5 : NoteAt (upd H4 t5 (.tup [.int ((i : Nat) : Int), .ref r])) t5 (i, xs) := ⟨by show i < 10000; omega, hxl, fun y hy => (hX4 y hy).mono S5, r, h5, h35⟩
      have hO5 : ∀ y ∈ ns, NoteAt (upd H4 t5 (.tup [.int ((i : Nat) : Int), .ref r])) y.1 y.2 := fun y hy => (hN4 y hy).mono S5
      generalize upd H4 t5 (.tup [.int ((i : Nat) : Int), .ref r]) = H5 at S25 hl5 hN5 hO5
      have keep : ∀ {a : Addr} {ys zs : List V}, H5 a = some (.tup ys) → upd H5 l (.lst zs) a = some (.tup ys) := fun {a ys zs} h => by
        rw [upd_ne (ne_of h hl5 (by intro z; cases z))]; exact h
      have kn : ∀ {a : Addr} {y : Note} {zs : List V}, NoteAt H5 a y → NoteAt (upd H5 l (.lst zs)) a y := fun {a y zs} h => by
        obtain ⟨h1, h2, h3, q, h4, h5⟩ := h
        refine ⟨h1, h2, fun y hy => ?_, q, keep h4, keep h5⟩
        obtain ⟨ho, r, k1, k2⟩ := h3 y hy
        exact ⟨ho, r, keep k1, keep k2⟩
      refine ⟨l, _, _, rfl, rfl, hl5, (by rw [List.length_map]; exact fewer (by omega)), ns ++ [(t5, (i, xs))], _, _, rfl, by rw [upd_same, List.map_append]; rfl, same_to S25 hl, by rw [est, List.map_append, hne]; rfl, fun y hy => ?_⟩
      rcases List.mem_append.mp hy with hy | hy
      · exact kn (hO5 y hy)
      · rw [List.mem_singleton.mp hy]; exact kn hN5
    · rintro σ H2 ⟨ns, v2, v3, rfl, h2, S2, hne, hN⟩
      refine ⟨_, rfl, l, _, rfl, .inl ⟨SqL.of h2, fun r hr' => ?_⟩⟩
      have S5 := same_upd (o := .tup (ns.map fun y => V.ref y.1)) hr'
      exact q _ r ns (S2.trans S5) upd_same (fun y hy => (hN y hy).mono S5) hne
/-! ### the readings of a column -/
theorem scRdf : FnScope ["column", "readings", "row", "entry"] ["column"] (defScope sRdf) := ⟨rfl, rfl, rfl, by decide +kernel, rfl, by decide +kernel, by decide +kernel⟩
theorem tup_dn {P : Program} {w : World} {H : Hp} {a d : Addr} {xs : List V} {kvs : List (Option Str × V)} (h : H a = some (.tup xs)) (h2 : H d = some (DN P w d kvs)) : a ≠ d := ne_of h h2 (fun z => nomatch (show HO.tup xs = HO.ext _ from z))
/-! ### the readings of a column that is a list -/
def spReadingsL : Sp := fun vs H Q _ => ∃ (p : Addr) (es : List V), vs = [.ref p] ∧ H p = some (.lst es) ∧ (∀ e ∈ es, Ent e) ∧ 1 ≤ es.length ∧ es.length ≤ 30 ∧
  ∀ (H' : Hp) (r : Addr) (xs : List (Addr × Rdg)), Same H H' → H' r = some (.tup (xs.map fun y => V.ref y.1)) → (∀ y ∈ xs, RdgAt H' y.1 y.2) → (xs.map fun y => y.2) = rdgsOf es → Q (.ref r) H'
theorem ok_readingsL {f : Addr} {fd : FuncData} (F : Fun K "readings_of" "readings_of" sRdf f fd) (mtup : mg "tuple" = none) (menum : mg "enumerate" = none) : FnOk P w K mg base CX0 1 f fd ["column"] spReadingsL := by
  refine F.ok scRdf (fun vs H Q E h => ?_) (fun cdv A outer s H vs Q E hr h => ?_)
  · obtain ⟨p, es, rfl, _⟩ := h
    rfl
  · obtain ⟨p, es, rfl, hp, hE, h1, h30, q⟩ := h
    refine ⟨_, pss_cons (ps_set (i := 1) scRdf.nd rfl (Or.inl rfl) pe_dnewN)
      (pss_cons (ps_for PassesOwn.never rfl (pi_enumL (by rfl) menum (pa_cons (pv 0) pa_nil)) (pg_tup (n := 2) rfl (pgs_cons (pg_name (i := 2) scRdf.nd rfl (Or.inl rfl)) (pgs_cons (pg_name (i := 3) scRdf.nd rfl (Or.inl rfl)) pgs_nil)))
      (pss_one (ps_if (pt_cmpR op_ne (pv 3) (pe_ix ix_list (pv 0) pe_int (fun _ _ => rfl)) (nomark _)) (pss_one (ps_asg (pe_op op_catH (pe_bmN PySem.F.slot_dict_get PySem.F.type_dict_get mt_dgetN (pv 1) (pa_cons (pv 3) (pa_cons (pe_tup pa_nil) pa_nil))) (pe_tup (pa_cons (pv 2) pa_nil))) (pg_sub (pv 1) (pv 3) set_dictN))) pss_nil)))
      (pss_one (ps_ret (pe_callTy (call_tuple_view rfl) (by rfl) mtup boot_tuple (pa_cons (pe_bmN0 PySem.F.slot_dict_items PySem.F.type_dict_items mt_itemsN (pv 1)) pa_nil))))), ?_⟩
    have h0 : atI es 0 = some (es.getD 0 .non) := atI_nat (j := 0) (by rw [List.getD_eq_getElem?_getD, List.getElem?_eq_getElem (by omega)]; rfl)
    have hE0 : Ent (es.getD 0 .non) := by rw [List.getD_eq_getElem?_getD, List.getElem?_eq_getElem (by omega)]; exact hE _ (List.getElem_mem _)
    refine fun d hd => ?_
    have S0 := same_upd (o := DN P w d []) hd
    have hp0 := S0 _ _ hp
    refine ⟨_, rfl, p, rfl, ⟨_, SqL.of hp0⟩, for_enumL (K := K) (a := p) (xs := es) (fun i σ H2 => ∃ (ps : List (V × Addr)) (v2 v3 : Option V), σ = [some (.ref p), some (.ref d), v2, v3] ∧ H2 d = some (DN P w d (dnOf ps)) ∧ (ps.map fun q => q.1) = entTo es i ∧ (∀ q ∈ ps, H2 q.2 = some (.tup ((rowsTo es q.1 i).map natV))) ∧ Same H H2)
      ⟨[], none, none, rfl, upd_same, rfl, (fun _ z => nomatch z), S0⟩ (fun i σ H2 _ ⟨_, _, _, _, _, _, _, S⟩ => SqL.of (S _ _ hp)) ?_ ?_⟩
    · rintro i x σ H2 T hi ⟨ps, v2, v3, rfl, h2d, hps, hA, S2⟩ hT
      have hx : Ent x := hE x (List.mem_of_getElem? hi)
      have hi' : i < es.length := (List.getElem?_eq_some_iff.mp hi).1
      have hP : ∀ q ∈ ps, Ent q.1 := fun q hq => hE q.1 (entTo_mem i (hps ▸ List.mem_map.mpr ⟨q, hq, rfl⟩)).1
      have hpl : ps.length ≤ i := by
        have h1 := congrArg List.length hps
        rw [List.length_map] at h1
        have h2 := entTo_len es i
        omega
      have hgi : es.getD i .non = x := by rw [List.getD_eq_getElem?_getD, hi]; rfl
      have est := entTo_step hi
      unfold entStep at est
      have T1 := same_upd (o := .tup [.int ((i : Nat) : Int), x]) hT
      have hTT : upd H2 T (.tup [.int ((i : Nat) : Int), x]) T = some (.tup [.int ((i : Nat) : Int), x]) := upd_same
      have S3 := S2.trans T1
      have h3d := T1 _ _ h2d
      have hA3 : ∀ q ∈ ps, upd H2 T (.tup [.int ((i : Nat) : Int), x]) q.2 = some (.tup ((rowsTo es q.1 i).map natV)) := fun q hq => T1 _ _ (hA q hq)
      generalize upd H2 T (.tup [.int ((i : Nat) : Int), x]) = H3 at T1 hTT S3 h3d hA3
      refine ⟨T, _, rfl, SqT.of hTT, rfl, _, _, rfl, _, _, rfl, rfl, ?_⟩
      refine ⟨_, rfl, _, rfl, p, _, _, _, rfl, rfl, SqL.of (S3 _ _ hp), h0, ent_scal hx hE0, _, rfl, ?_⟩
      have other : ∀ y, y ≠ x → rowsTo es y (i + 1) = rowsTo es y i := fun y hy => by rw [rowsTo_step, if_neg (fun z : es.getD i .non = y => hy (z.symm.trans hgi)), List.append_nil]
      by_cases c : x = es.getD 0 .non
      · rw [if_pos c] at est
        rw [decide_eq_true (show x = es.getD 0 .non from c)]
        refine iteF ⟨ps, _, _, rfl, h3d, by rw [est]; exact hps, fun q hq => ?_, S3⟩
        have hne : q.1 ≠ x := fun e => (entTo_mem i (hps ▸ List.mem_map.mpr ⟨q, hq, rfl⟩)).2 (e.trans c)
        rw [other _ hne]
        exact hA3 q hq
      rw [if_neg c] at est
      rw [decide_eq_false (show ¬ x = es.getD 0 .non from c)]
      refine iteT ?_
      refine ⟨_, rfl, d, _, rfl, h3d, _, rfl, few (by show 0 ≤ _; omega), fun t0 ht0 => ?_⟩
      have T4 := same_upd (o := .tup []) ht0
      have h44 : upd H3 t0 (.tup []) t0 = some (.tup []) := upd_same
      have h4d := T4 _ _ h3d
      have hA4 : ∀ q ∈ ps, upd H3 t0 (.tup []) q.2 = some (.tup ((rowsTo es q.1 i).map natV)) := fun q hq => T4 _ _ (hA3 q hq)
      have S4 := S3.trans T4
      generalize upd H3 t0 (.tup []) = H4 at T4 h44 h4d hA4 S4
      refine ⟨d, _, vKey x, _, rfl, by rw [vKey_ent hx], h4d, ?_⟩
      obtain ⟨b, eb, hb⟩ : ∃ b, (valV (dnOf ps) (vKey x)).getD (.ref t0) = .ref b ∧ H4 b = some (.tup ((rowsTo es x i).map natV)) := by
        by_cases m : x ∈ ps.map (fun q => q.1)
        · obtain ⟨a, ha, e⟩ := dn_some hP hx m
          exact ⟨a, by rw [e]; rfl, hA4 _ ha⟩
        · refine ⟨t0, by rw [dn_none hP hx m]; rfl, ?_⟩
          rw [rows_none i (by omega) (hps ▸ m) c]
          exact h44
      rw [eb]
      refine ⟨_, rfl, few (by show 1 ≤ _; omega), fun t1 ht1 => ?_⟩
      have T5 := same_upd (o := .tup [V.int ((i : Nat) : Int)]) ht1
      have hrl := rowsTo_len es x i
      refine ⟨b, t1, _, _, rfl, rfl, T5 _ _ hb, upd_same, (by rw [List.length_map]; exact few (by show _ + 1 ≤ _; omega)), fun r H6 S6 h6 => ?_⟩
      have S46 := T5.trans S6
      have h6d := S46 _ _ h4d
      have S06 := S4.trans S46
      have hA6 : ∀ q ∈ ps, H6 q.2 = some (.tup ((rowsTo es q.1 i).map natV)) := fun q hq => S46 _ _ (hA4 q hq)
      have er : (rowsTo es x i).map natV ++ [V.int ((i : Nat) : Int)] = (rowsTo es x (i + 1)).map natV := by
        rw [rowsTo_step, if_pos hgi, List.map_append]
        rfl
      rw [er] at h6
      have hsame : ∀ kvs, Same H (upd H6 d (DN P w d kvs)) := fun kvs => same_to S06 hd
      have keep : ∀ {a : Addr} {ys : List V} {kvs : List (Option Str × V)}, H6 a = some (.tup ys) → upd H6 d (DN P w d kvs) a = some (.tup ys) := fun {a ys kvs} h => by
        rw [upd_ne (tup_dn h h6d)]; exact h
      refine ⟨_, rfl, _, rfl, d, _, vKey x, rfl, (vKey_ent hx).symm, h6d, (by unfold dnOf; rw [List.length_map]; exact fewer (by omega)), ?_⟩
      by_cases m : x ∈ ps.map (fun q => q.1)
      · rw [if_pos (hps ▸ m)] at est
        rw [dn_put hP hx m]
        refine ⟨_, _, _, rfl, upd_same, ?_, fun q hq => ?_, hsame _⟩
        · rw [est, ← hps, List.map_map]
          refine List.map_congr_left fun q _ => ?_
          show (if q.1 = x then (q.1, r) else q).1 = q.1
          split <;> rfl
        · obtain ⟨q0, hq0, rfl⟩ := List.mem_map.mp hq
          by_cases e : q0.1 = x
          · rw [if_pos e]
            show upd H6 d _ r = some (.tup ((rowsTo es q0.1 (i + 1)).map natV))
            rw [e]
            exact keep h6
          · rw [if_neg e, other _ e]
            exact keep (hA6 q0 hq0)
      · rw [if_neg (hps ▸ m)] at est
        rw [dn_new hP hx m]
        refine ⟨_, _, _, rfl, upd_same, by rw [est, ← hps, List.map_append]; rfl, fun q hq => ?_, hsame _⟩
        rcases List.mem_append.mp hq with hq | hq
        · rw [other _ (fun e => m (e ▸ List.mem_map.mpr ⟨q, hq, rfl⟩))]
          exact keep (hA6 q hq)
        · rw [List.mem_singleton.mp hq]
          exact keep h6
    · rintro σ H2 ⟨ps, v2, v3, rfl, h2d, hps, hA, S2⟩
      have hP : ∀ q ∈ ps, Ent q.1 := fun q hq => hE q.1 (entTo_mem _ (hps ▸ List.mem_map.mpr ⟨q, hq, rfl⟩)).1
      refine ⟨_, rfl, d, _, rfl, h2d, d, _, rfl, rfl, h2d, fun v hv => ?_⟩
      have T3 := same_upd (o := ViewO v d) hv
      refine ⟨v, d, _, rfl, upd_same, T3 _ _ h2d, fun H' t as S3 _ ht hPr => ?_⟩
      have S23 : Same H2 H' := fun b o e => S3 _ _ (T3 _ _ e)
      have hlen : as.length = ps.length := by rw [hPr.len]; unfold dnOf; rw [List.length_map]
      refine q H' t (List.zipWith (fun a q => (a, (q.1, rowsTo es q.1 es.length))) as ps) (S2.trans S23) ?_ (fun y hy => ?_) ?_
      · rw [ht, List.map_zipWith]
        congr 2
        exact (zip_fst V.ref as ps hlen).symm
      · obtain ⟨j, hj⟩ := List.mem_iff_getElem?.mp hy
        rw [List.getElem?_zipWith] at hj
        cases ea : as[j]? with
        | none => rw [ea] at hj; cases hj
        | some a =>
          cases ep : ps[j]? with
          | none => rw [ea, ep] at hj; cases hj
          | some qq =>
            rw [ea, ep] at hj
            cases hj
            have hm := List.mem_of_getElem? ep
            have hmem : qq.1 ∈ entTo es es.length := hps ▸ List.mem_map.mpr ⟨qq, hm, rfl⟩
            have h3 := hPr.item j a (vKey qq.1) (.ref qq.2) ea (by unfold dnOf; rw [List.getElem?_map, ep]; rfl)
            rw [vKey_ent (hP qq hm)] at h3
            exact ⟨rdgs_ok hE h30 hmem, qq.2, h3, S23 _ _ (hA qq hm)⟩
      · rw [List.map_zipWith]
        unfold rdgsOf
        rw [← hps, List.map_map]
        exact zip_snd (fun q : V × Addr => (q.1, rowsTo es q.1 es.length)) as ps hlen
/-! ### a column made again -/
theorem eqs_rdgs {H : Hp} {t u : Addr} {xs ys : List (Addr × Rdg)} (ht : H t = some (.tup (xs.map fun y => V.ref y.1))) (hu : H u = some (.tup (ys.map fun y => V.ref y.1))) (hX : ∀ y ∈ xs, RdgAt H y.1 y.2) (hY : ∀ y ∈ ys, RdgAt H y.1 y.2) (e : (xs.map fun y => y.2) = ys.map fun y => y.2) : EqS K H 2 (.ref t) (.ref u) true := by
  have el : xs.length = ys.length := by have := congrArg List.length e; rw [List.length_map, List.length_map] at this; exact this
  refine ⟨t, u, _, _, fun _ => true, rfl, rfl, .inr ⟨SqT.of ht, SqT.of hu⟩, fun i x y hx hy => ?_, ?_⟩
  · rw [List.getElem?_map] at hx hy
    obtain ⟨p, hp, rfl⟩ := Option.map_eq_some_iff.mp hx
    obtain ⟨q, hq, rfl⟩ := Option.map_eq_some_iff.mp hy
    have e4 := congrArg (fun l => l[i]?) e
    rw [List.getElem?_map, List.getElem?_map, hp, hq] at e4
    have e5 : p.2 = q.2 := Option.some.inj e4
    obtain ⟨ho, r, h1, h2⟩ := hX p (List.mem_of_getElem? hp)
    obtain ⟨_, r', h3, h4⟩ := hY q (List.mem_of_getElem? hq)
    rw [← e5] at h3 h4
    refine .inr ⟨p.1, q.1, _, _, fun _ => true, rfl, rfl, .inr ⟨SqT.of h1, SqT.of h3⟩, fun j x y hx hy => ?_, by rfl⟩
    match j, hx, hy with
    | 0, hx, hy =>
      cases hx; cases hy
      have := EqQ.flat (K := K) (H := H) (ent_flat ho.1) (ent_flat ho.1) 1
      rw [ent_eqV ho.1 ho.1, decide_eq_true rfl] at this
      exact this
    | 1, hx, hy =>
      cases hx; cases hy
      have hfl : (p.2.2.map natV).all flatV = true := by rw [List.all_eq_true]; intro x hx; obtain ⟨k, _, rfl⟩ := List.mem_map.mp hx; rfl
      have := EqS.flats (K := K) (H := H) (.inr ⟨SqT.of h2, SqT.of h4⟩) hfl hfl
      rw [eqL_refl hfl] at this
      exact .inr this
    | n + 2, hx, hy => simp at hx
  · rw [List.length_map, List.length_map, el, decide_eq_true rfl, Bool.true_and]
    exact (List.all_eq_true.mpr fun _ _ => rfl).symm
def spCB (K : PySem.W.Frag) : Sp := fun vs H Q _ => ∃ (es : List V) (t : Addr) (xs : List (Addr × Rdg)), vs = [es.getD 0 .non, .int ((es.length : Nat) : Int), .ref t] ∧ (∀ e ∈ es, Ent e) ∧ 1 ≤ es.length ∧ es.length ≤ 30 ∧ H t = some (.tup (xs.map fun y => V.ref y.1)) ∧ (∀ y ∈ xs, RdgAt H y.1 y.2) ∧ (xs.map fun y => y.2) = rdgsOf es ∧ xs ≠ [] ∧
  ∀ (H' : Hp) (r : Addr), Same H H' → H' r = some (.tup es) → Q (.ref r) H'
theorem scCB : FnScope ["entry", "many", "readings", "column", "reading", "rows", "row"] ["entry", "many", "readings"] (defScope sCB) := ⟨rfl, rfl, rfl, by decide +kernel, rfl, by decide +kernel, by decide +kernel⟩
theorem ok_cb {f gR : Addr} {fd dR : FuncData} (F : Fun K "column_back" "column_back" sCB f fd) (DR : Dfn K mg "readings_of" sRdf gR dR ["column"]) (mlen : mg "len" = none) (mtup : mg "tuple" = none) (menum : mg "enumerate" = none) : FnOk P w K mg base CX0 2 f fd ["entry", "many", "readings"] (spCB K) := by
  have GR : FnOk P w K mg base CX0 1 gR dR ["column"] spReadingsL := ok_readingsL DR.fn mtup menum
  refine F.ok scCB (fun vs H Q E h => ?_) (fun cdv A outer s H vs Q E hr h => ?_)
  · obtain ⟨es, t, xs, rfl, _⟩ := h
    rfl
  · obtain ⟨es, t, xs, rfl, hE, h1, h30, ht, hX, hxe, hne, q⟩ := h
    refine ⟨_, pss_cons (ps_set (i := 3) scCB.nd rfl (Or.inl rfl) (pe_op op_mulL (pe_lst (pa_cons (pv 0) pa_nil)) (pv 1)))
      (pss_cons (ps_for PassesOwn.never rfl (pi_tup (pv 2)) (pg_tup (n := 2) rfl (pgs_cons (pg_name (i := 4) scCB.nd rfl (Or.inl rfl)) (pgs_cons (pg_name (i := 5) scCB.nd rfl (Or.inl rfl)) pgs_nil)))
      (pss_one (ps_for PassesOwn.never rfl (pi_tup (pv 5)) (pg_name (i := 6) scCB.nd rfl (Or.inl rfl))
      (pss_cons (ps_if (pt_not (pt_chain op_lt op_lt pe_int (pv 6) (pv 1))) pss_never pss_nil)
      (pss_one (ps_asg (pv 4) (pg_sub (pv 3) (pv 6) set_list)))))))
      (pss_cons (ps_if (PW.pt (pw_or (pt_cmpR op_eq (pe_callB call_len_seq (by rfl) mlen PySem.boot_len (pa_cons (pv 2) pa_nil)) pe_int (nomark _)) (pw_or1 (pt_cmpR (op_neS hr.units) (pe_call GR hr (by rfl) DR.at_ DR.fn.kp DR.bn .nil pass0 (pa_cons (pv 3) pa_nil)) (pv 2) (nomark _))))) pss_never pss_nil)
      (pss_one (ps_ret (pe_callTy call_tuple_of (by rfl) mtup boot_tuple (pa_cons (pv 3) pa_nil)))))), ?_⟩
    refine ⟨_, rfl, few (by show 1 ≤ _; omega), fun l0 hl0 => ?_⟩
    have T0 := same_upd (o := .lst [es.getD 0 .non]) hl0
    refine ⟨_, rfl, l0, _, es.length, rfl, rfl, upd_same, by omega, fun lc hlc => ?_⟩
    have T1 := same_upd (o := .lst (List.replicate es.length (es.getD 0 .non))) hlc
    have S1 := T0.trans T1
    have h1c : upd (upd H l0 (.lst [es.getD 0 .non])) lc (.lst (List.replicate es.length (es.getD 0 .non))) lc = some (.lst (colF es (es.getD 0 .non) (fun _ => false) es.length)) := by rw [upd_same, colF_none]
    have hcH := T0.free hlc
    generalize upd (upd H l0 (.lst [es.getD 0 .non])) lc (.lst (List.replicate es.length (es.getD 0 .non))) = H1 at S1 h1c
    have hus : (xs.map fun y => y.2) = (entTo es es.length).map fun x => (x, rowsTo es x es.length) := hxe
    have hul : xs.length = (entTo es es.length).length := by have := congrArg List.length hus; rw [List.length_map, List.length_map] at this; exact this
    refine ⟨_, rfl, t, rfl, ⟨_, SqT.of (S1 _ _ ht)⟩, for_tup (K := K) (a := t) (xs := xs.map fun y => V.ref y.1) (fun j σ H2 => ∃ (S : Nat → Bool) (v4 v5 v6 : Option V), σ = [some (es.getD 0 .non), some (.int ((es.length : Nat) : Int)), some (.ref t), some (.ref lc), v4, v5, v6] ∧ H2 lc = some (.lst (colF es (es.getD 0 .non) S es.length)) ∧ (∀ r, r < es.length → (S r = true ↔ es.getD r .non ∈ (entTo es es.length).take j)) ∧ Same H H2)
      ⟨fun _ => false, none, none, none, rfl, h1c, (fun r _ => by rw [List.take_zero]; exact ⟨fun z => absurd z Bool.false_ne_true, fun z => absurd z List.not_mem_nil⟩), S1⟩ (fun j σ H2 _ ⟨_, _, _, _, _, _, _, S⟩ => SqT.of (S _ _ ht)) ?_ ?_⟩
    · rintro j y σ H2 hj ⟨S, v4, v5, v6, rfl, h2c, hS, S2⟩
      rw [List.getElem?_map] at hj
      obtain ⟨p, hp, rfl⟩ := Option.map_eq_some_iff.mp hj
      have hjl : j < xs.length := (List.getElem?_eq_some_iff.mp hp).1
      obtain ⟨x, hxj, ep⟩ : ∃ x, (entTo es es.length)[j]? = some x ∧ p.2 = (x, rowsTo es x es.length) := by
        have hjl' : j < (entTo es es.length).length := by rw [← hul]; exact hjl
        refine ⟨_, List.getElem?_eq_getElem hjl', ?_⟩
        have e4 := congrArg (fun l => l[j]?) hus
        rw [List.getElem?_map, List.getElem?_map, hp, List.getElem?_eq_getElem hjl'] at e4
        exact Option.some.inj e4
      have hxm := List.mem_of_getElem? hxj
      have hx0 : x ≠ es.getD 0 .non := (entTo_mem _ hxm).2
      obtain ⟨ho, r0, hp1, hp2⟩ := hX p (List.mem_of_getElem? hp)
      rw [ep] at hp1 hp2
      refine ⟨p.1, _, rfl, SqT.of (S2 _ _ hp1), rfl, _, _, rfl, _, _, rfl, rfl, ?_⟩
      have hrl := rowsTo_len es x es.length
      refine ⟨_, rfl, r0, rfl, ⟨_, SqT.of (S2 _ _ hp2)⟩, for_tup (K := K) (a := r0) (xs := (rowsTo es x es.length).map natV) (fun k σ H3 => ∃ (S' : Nat → Bool) (v6 : Option V), σ = [some (es.getD 0 .non), some (.int ((es.length : Nat) : Int)), some (.ref t), some (.ref lc), some x, some (.ref r0), v6] ∧ H3 lc = some (.lst (colF es (es.getD 0 .non) S' es.length)) ∧ (∀ r, r < es.length → (S' r = true ↔ es.getD r .non ∈ (entTo es es.length).take j ∨ r ∈ (rowsTo es x es.length).take k)) ∧ Same H H3)
        ⟨S, v6, rfl, h2c, (fun r hr => by rw [hS r hr, List.take_zero]; exact ⟨fun z => .inl z, fun z => z.elim id fun z => absurd z List.not_mem_nil⟩), S2⟩ (fun k σ H3 _ ⟨_, _, _, _, _, S3⟩ => SqT.of (S3 _ _ hp2)) ?_ ?_⟩
      · rintro k y σ H3 hk ⟨S', v6, rfl, h3c, hS', S3⟩
        rw [List.getElem?_map] at hk
        obtain ⟨r, hrk, rfl⟩ := Option.map_eq_some_iff.mp hk
        have hrm := List.mem_of_getElem? hrk
        obtain ⟨hrm1, hrm2⟩ := rowsTo_mem.mp hrm
        have hr0 : 0 < r := by
          rcases Nat.eq_zero_or_pos r with z | z
          · rw [z] at hrm2
            exact absurd hrm2.symm hx0
          · exact z
        refine ⟨_, rfl, _, _, rfl, rfl, _, rfl, ?_⟩
        rw [decide_eq_true (show (0 : Int) < ((r : Nat) : Int) by omega)]
        refine iteT ⟨_, rfl, _, _, rfl, rfl, _, rfl, ?_⟩
        rw [decide_eq_true (show ((r : Nat) : Int) < ((es.length : Nat) : Int) by omega)]
        refine iteF ?_
        refine ⟨_, rfl, _, rfl, _, rfl, lc, _, _, r, rfl, rfl, h3c, (by rw [colF_len]; exact ixN_nat hrm1), ?_⟩
        rw [colF_set hrm1 hrm2]
        refine ⟨_, _, rfl, upd_same, fun r' hr' => ?_, same_to S3 hcH⟩
        rw [List.take_add_one, hrk, List.mem_append, Bool.or_eq_true, hS' r' hr', beq_iff_eq]
        show (_ ∨ _) ∨ r' = r ↔ _ ∨ _ ∨ r' ∈ [r]
        rw [List.mem_singleton, or_assoc]
      · rintro σ H3 ⟨S', v6, rfl, h3c, hS', S3⟩
        refine ⟨S', _, _, _, rfl, h3c, fun r hr => ?_, S3⟩
        rw [hS' r hr, List.length_map, List.take_length, rowsTo_mem, List.take_add_one, hxj, List.mem_append]
        show _ ∨ _ ↔ _ ∨ es.getD r .non ∈ [x]
        rw [List.mem_singleton]
        exact ⟨fun z => z.elim .inl fun z => .inr z.2, fun z => z.elim .inl fun z => .inr ⟨hr, z⟩⟩
    · rintro σ H2 ⟨S, v4, v5, v6, rfl, h2c, hS, S2⟩
      rw [List.length_map, hul, List.take_length] at hS
      rw [colF_done hS] at h2c
      have lx : (xs.map fun y => V.ref y.1).length = xs.length := List.length_map ..
      have hxp : 0 < xs.length := List.length_pos_iff.mpr hne
      refine ⟨_, rfl, t, _, rfl, .inr (SqT.of (S2 _ _ ht)), rfl, _, rfl, ?_⟩
      rw [lx, decide_eq_false (show ¬ (V.int ((xs.length : Nat) : Int) = V.int 0) from fun z => by have := V.int.inj z; omega)]
      refine iteF ?_
      refine ⟨_, rfl, lc, es, rfl, h2c, hE, h1, h30, fun H3 r3 ys S3 h3 hY hye => ?_⟩
      refine ⟨_, rfl, 2, true, by decide, eqs_rdgs h3 (S3 _ _ (S2 _ _ ht)) hY (fun y hy => ((hX y hy).mono S2).mono S3) (hye.trans hxe.symm), _, rfl, iteF ?_⟩
      refine ⟨_, rfl, lc, _, rfl, .inl ⟨SqL.of (S3 _ _ h2c), fun r4 hr4 => ?_⟩⟩
      have T4 := same_upd (o := .tup es) hr4
      exact q _ r4 ((S2.trans S3).trans T4) upd_same
/-! ### a collation made again -/
def spOB (K : PySem.W.Frag) : Sp := fun vs H Q _ => ∃ (p t : Addr) (cs : List (Addr × List V)) (m : Nat) (ns : List (Addr × Note)), vs = [.ref p, .int ((m : Nat) : Int), .ref t] ∧ H p = some (.tup (cs.map fun x => x.2.getD 0 .non)) ∧ (∀ x ∈ cs, x.2.length = m ∧ ∀ e ∈ x.2, Ent e) ∧ 1 ≤ m ∧ m ≤ 30 ∧ cs.length ≤ 1200 ∧ H t = some (.tup (ns.map fun y => V.ref y.1)) ∧ (∀ y ∈ ns, NoteAt H y.1 y.2) ∧ (ns.map fun y => toldN y.2) = notesTo (pureC cs) cs.length ∧
  ∀ (H' : Hp) (r : Addr) (as : List Addr), Same H H' → H' r = some (.tup (as.map V.ref)) → as.length = cs.length → (∀ (i : Nat) (a : Addr) (c : Addr × List V), as[i]? = some a → cs[i]? = some c → H' a = some (.tup c.2)) → Q (.ref r) H'
theorem scOB : FnScope ["entries", "many", "notes", "columns", "ahead", "number", "readings"] ["entries", "many", "notes"] (defScope sOB) := ⟨rfl, rfl, rfl, by decide +kernel, rfl, by decide +kernel, by decide +kernel⟩
theorem nd_em : (["entry", "many"] : List Str).Nodup := by decide +kernel
/-- columns that are made already, or not yet -/
def BackAt (H : Hp) (as : List Addr) (cs : List (Addr × List V)) (m : Nat) (done : List (Nat × List Rdg)) : Prop := ∀ (i : Nat) (a : Addr) (c : Addr × List V), as[i]? = some a → cs[i]? = some c → H a = some (.tup c.2) ∨ (H a = some (.tup (List.replicate m (c.2.getD 0 .non))) ∧ ∀ q ∈ done, q.1 ≠ i)
theorem BackAt.mono {H H' : Hp} {as : List Addr} {cs : List (Addr × List V)} {m : Nat} {done : List (Nat × List Rdg)} (S : Same H H') (h : BackAt H as cs m done) : BackAt H' as cs m done := fun i a c e1 e2 => (h i a c e1 e2).elim (fun z => .inl (S _ _ z)) fun z => .inr ⟨S _ _ z.1, z.2⟩
theorem ok_ob {f gR gC : Addr} {fd dR dC : FuncData} (F : Fun K "collation_back" "collation_back" sOB f fd) (DR : Dfn K mg "readings_of" sRdf gR dR ["column"]) (DC : Dfn K mg "column_back" sCB gC dC ["entry", "many", "readings"]) (mlen : mg "len" = none) (mtup : mg "tuple" = none) (menum : mg "enumerate" = none) : FnOk P w K mg base CX0 3 f fd ["entries", "many", "notes"] (spOB K) := by
  have GC : FnOk P w K mg base CX0 2 gC dC ["entry", "many", "readings"] (spCB K) := ok_cb DC.fn DR mlen mtup menum
  refine F.ok scOB (fun vs H Q E h => ?_) (fun cdv A outer s H vs Q E hr h => ?_)
  · obtain ⟨p, t, cs, m, ns, rfl, _⟩ := h
    rfl
  · obtain ⟨p, t, cs, m, ns, rfl, hp, hC, m1, m30, hcl, ht, hN, hto, q⟩ := h
    refine ⟨_, pss_cons (ps_setC (i := 3) (Nc := ["entry", "many"]) (mp := [none, some 1]) rfl scOB.nd rfl rfl (CompOk.of (by rfl)) (pi_tup (pv 0)) (fun cl C s H fp => ⟨pg_name (i := 0) nd_em rfl (Or.inl rfl), pts_nil, (pe_op op_mulT (pe_tup (pa_cons (pv 0) pa_nil)) (pv 1))⟩))
      (pss_cons (ps_set (i := 4) scOB.nd rfl (Or.inl rfl) (pe_un un_neg pe_int))
      (pss_cons (ps_for PassesOwn.never rfl (pi_tup (pv 2)) (pg_tup (n := 2) rfl (pgs_cons (pg_name (i := 5) scOB.nd rfl (Or.inl rfl)) (pgs_cons (pg_name (i := 6) scOB.nd rfl (Or.inl rfl)) pgs_nil)))
      (pss_cons (ps_if (pt_not (pt_chain op_lt op_lt (pv 4) (pv 5) (pe_callB call_len_seq (by rfl) mlen PySem.boot_len (pa_cons (pv 0) pa_nil)))) pss_never pss_nil)
      (pss_cons (ps_asg (pe_call GC hr (by rfl) DC.at_ DC.fn.kp DC.bn .nil pass0 (pa_cons (pe_ix ix_tup (pv 0) (pv 5) (fun _ _ => rfl)) (pa_cons (pv 1) (pa_cons (pv 6) pa_nil)))) (pg_sub (pv 3) (pv 5) set_list))
      (pss_one (ps_set (i := 4) scOB.nd rfl (Or.inl rfl) (pv 5))))))
      (pss_one (ps_ret (pe_callTy call_tuple_of (by rfl) mtup boot_tuple (pa_cons (pv 3) pa_nil)))))), ?_⟩
    refine ⟨_, rfl, p, rfl, ⟨_, SqT.of hp⟩, comp_grow (as := cs) (v := fun x => x.2.getD 0 .non) (fun i acc H2 => ∃ as : List Addr, acc = as.map V.ref ∧ as.length = i ∧ Same H H2 ∧ ∀ (i : Nat) (a : Addr) (c : Addr × List V), as[i]? = some a → cs[i]? = some c → H2 a = some (.tup (List.replicate m (c.2.getD 0 .non))))
      (fun i acc H2 _ ⟨_, _, _, S, _⟩ => src_tup (SqT.of (S _ _ hp))) (few (by omega)) ⟨[], rfl, rfl, Same.refl _, (fun i a c e => by simp at e)⟩ (fun i acc H2 ⟨as, e, hl, _⟩ => by rw [e, List.length_map, hl]) ?_ ?_⟩
    · rintro i c acc H2 hc ⟨as, rfl, hal, S2, hA⟩ k hk
      refine ⟨_, rfl, few (by show 1 ≤ _; omega), fun t3 ht3 => ?_⟩
      have T3 := same_upd (o := .tup [c.2.getD 0 .non]) ht3
      refine ⟨_, rfl, t3, _, m, rfl, rfl, upd_same, by omega, fun r4 H4 S4 h4 => ?_⟩
      have S24 := T3.trans S4
      refine hk _ _ ⟨as ++ [r4], by rw [List.map_append]; rfl, by rw [List.length_append, hal]; rfl, S2.trans S24, fun j a d e1 e2 => ?_⟩
      by_cases hj : j < as.length
      · rw [List.getElem?_append_left hj] at e1
        exact S24 _ _ (hA j a d e1 e2)
      · rw [List.getElem?_append_right (by omega)] at e1
        have hj0 : j = i := by
          have := (List.getElem?_eq_some_iff.mp e1).1
          rw [List.length_singleton] at this
          omega
        subst hj0
        rw [hal, Nat.sub_self] at e1
        cases e1
        rw [hc] at e2
        cases e2
        exact h4
    rintro acc H2 ⟨as, rfl, hal, S2, hA⟩ lc hlc
    have T3 := same_upd (o := .lst (as.map V.ref)) hlc
    have h3c : upd H2 lc (.lst (as.map V.ref)) lc = some (.lst (as.map V.ref)) := upd_same
    have S3 := S2.trans T3
    have hcH := S2.free hlc
    have hB3 : BackAt (upd H2 lc (.lst (as.map V.ref))) as cs m [] := fun i a c e1 e2 => .inr ⟨T3 _ _ (hA i a c e1 e2), fun q z => absurd z List.not_mem_nil⟩
    generalize upd H2 lc (.lst (as.map V.ref)) = H3 at T3 h3c S3 hB3
    have hsort := notes_sorted (pureC cs) cs.length
    have hmem : ∀ q ∈ notesTo (pureC cs) cs.length, q.1 < cs.length ∧ q.2 = rdgsOf ((pureC cs).getD q.1 []) ∧ q.2 ≠ [] := fun q hq => notes_mem hq
    have hall : ∀ i, i < cs.length → rdgsOf ((pureC cs).getD i []) ≠ [] → (i, rdgsOf ((pureC cs).getD i [])) ∈ notesTo (pureC cs) cs.length := fun i hi h => notes_all hi h
    have hnl : ns.length = (notesTo (pureC cs) cs.length).length := by have := congrArg List.length hto; rw [List.length_map] at this; exact this
    generalize notesTo (pureC cs) cs.length = told at hto hsort hmem hall hnl
    have lcs : (cs.map fun x => x.2.getD 0 .non).length = cs.length := List.length_map ..
    refine ⟨_, rfl, ?_⟩
    refine ⟨_, rfl, t, rfl, ⟨_, SqT.of (S3 _ _ ht)⟩, for_tup (K := K) (a := t) (xs := ns.map fun y => V.ref y.1) (fun j σ H4 => ∃ (as : List Addr) (ahead : Int) (v5 v6 : Option V), σ = [some (.ref p), some (.int ((m : Nat) : Int)), some (.ref t), some (.ref lc), some (.int ahead), v5, v6] ∧ as.length = cs.length ∧ H4 lc = some (.lst (as.map V.ref)) ∧ BackAt H4 as cs m (told.take j) ∧ (∀ q ∈ told.drop j, ahead < ((q.1 : Nat) : Int)) ∧ Same H H4)
      ⟨as, -1, none, none, rfl, hal, h3c, by rw [List.take_zero]; exact hB3, (fun q _ => by omega), S3⟩ (fun j σ H4 _ ⟨_, _, _, _, _, _, _, _, _, S⟩ => SqT.of (S _ _ ht)) ?_ ?_⟩
    · rintro j y σ H4 hj ⟨as, ahead, v5, v6, rfl, hal, h4c, hB, hah, S4⟩
      rw [List.getElem?_map] at hj
      obtain ⟨y, hy, rfl⟩ := Option.map_eq_some_iff.mp hj
      have hjl : j < told.length := by rw [← hnl]; exact (List.getElem?_eq_some_iff.mp hy).1
      have etold : told[j]? = some (toldN y.2) := by
        have e4 := congrArg (fun l => l[j]?) hto
        rw [List.getElem?_map, hy] at e4
        exact e4.symm
      obtain ⟨m1', m2', m3'⟩ := hmem _ (List.mem_of_getElem? etold)
      have m1' : y.2.1 < cs.length := m1'
      have edrop : told.drop j = toldN y.2 :: told.drop (j + 1) := by
        rw [List.drop_eq_getElem_cons hjl]
        rw [List.getElem?_eq_getElem hjl] at etold
        rw [Option.some.inj etold]
      have hlt : ahead < ((y.2.1 : Nat) : Int) := hah (toldN y.2) (by rw [edrop]; exact List.mem_cons_self)
      have hnext : ∀ q ∈ told.drop (j + 1), ((y.2.1 : Nat) : Int) < ((q.1 : Nat) : Int) := fun q hq => by
        have h1 : (told.drop j).Pairwise fun p q => p.1 < q.1 := hsort.sublist (List.drop_sublist _ _)
        rw [edrop, List.pairwise_cons] at h1
        have := h1.1 q hq
        have : y.2.1 < q.1 := this
        omega
      obtain ⟨n1, n2, n3, qa, n4, n5⟩ := hN y (List.mem_of_getElem? hy)
      refine ⟨y.1, _, rfl, SqT.of (S4 _ _ n4), rfl, _, _, rfl, _, _, rfl, rfl, ?_⟩
      refine ⟨_, rfl, _, rfl, _, _, rfl, rfl, _, rfl, ?_⟩
      rw [decide_eq_true (show ahead < ((y.2.1 : Nat) : Int) from hlt)]
      refine iteT ⟨_, rfl, p, _, rfl, .inr (SqT.of (S4 _ _ hp)), _, _, rfl, rfl, _, rfl, ?_⟩
      rw [lcs, decide_eq_true (show ((y.2.1 : Nat) : Int) < ((cs.length : Nat) : Int) by omega)]
      refine iteF ?_
      have ecs := List.getElem?_eq_getElem m1'
      obtain ⟨c2, c3⟩ := hC _ (List.getElem_mem m1')
      have epure : (pureC cs).getD y.2.1 [] = cs[y.2.1].2 := pureC_at m1'
      have m2' : (y.2.2.map fun z => z.2) = rdgsOf cs[y.2.1].2 := by rw [← epure]; exact m2'
      have m3' : y.2.2 ≠ [] := fun z => m3' (by show (y.2.2.map fun z => z.2) = []; rw [z]; rfl)
      have aent : atI (cs.map fun x => x.2.getD 0 .non) ((y.2.1 : Nat) : Int) = some (cs[y.2.1].2.getD 0 .non) := atI_nat (by rw [List.getElem?_map, ecs]; rfl)
      generalize cs[y.2.1] = c at ecs c2 c3 epure m2' aent
      refine ⟨_, rfl, _, rfl, p, _, _, _, rfl, rfl, SqT.of (S4 _ _ hp), aent, _, rfl, _, rfl, c.2, qa, y.2.2, (by rw [c2]; rfl), c3, by omega, by omega, S4 _ _ n5, (fun z hz => (n3 z hz).mono S4), m2', m3', fun H5 r5 S5 h5 => ?_⟩
      have h5c := S5 _ _ h4c
      have hB5 := hB.mono S5
      refine ⟨_, rfl, _, rfl, lc, _, _, y.2.1, rfl, rfl, h5c, (by rw [List.length_map, hal]; exact ixN_nat m1'), ?_⟩
      have keep : ∀ {a : Addr} {ys zs : List V}, H5 a = some (.tup ys) → upd H5 lc (.lst zs) a = some (.tup ys) := fun {a ys zs} h => by
        rw [upd_ne (ne_of h h5c (by intro z; cases z))]; exact h
      refine ⟨_, rfl, as.set y.2.1 r5, _, _, _, rfl, by rw [List.length_set]; exact hal, by rw [upd_same, List.map_set], fun i a d e1 e2 => ?_, hnext, same_to (S4.trans S5) hcH⟩
      rw [List.getElem?_set] at e1
      by_cases hi : y.2.1 = i
      · subst hi
        rw [if_pos rfl, if_pos (by rw [hal]; exact m1')] at e1
        cases e1
        rw [ecs] at e2
        cases e2
        exact .inl (keep h5)
      · rw [if_neg hi] at e1
        rcases hB5 i a d e1 e2 with h | ⟨h, h'⟩
        · exact .inl (keep h)
        · refine .inr ⟨keep h, fun q hq => ?_⟩
          rw [List.take_add_one, etold, List.mem_append] at hq
          rcases hq with hq | hq
          · exact h' q hq
          · rw [List.mem_singleton.mp hq]
            exact hi
    · rintro σ H4 ⟨as, ahead, v5, v6, rfl, hal, h4c, hB, hah, S4⟩
      rw [List.length_map, hnl, List.take_length] at hB
      refine ⟨_, rfl, lc, _, rfl, .inl ⟨SqL.of h4c, fun r5 hr5 => ?_⟩⟩
      have T5 := same_upd (o := .tup (as.map V.ref)) hr5
      refine q _ r5 as (S4.trans T5) upd_same hal fun i a c e1 e2 => T5 _ _ ?_
      have hi : i < cs.length := (List.getElem?_eq_some_iff.mp e2).1
      have ec : cs[i] = c := (List.getElem?_eq_some_iff.mp e2).2
      have epure : (pureC cs).getD i [] = c.2 := by rw [pureC_at hi, ec]
      rcases hB i a c e1 e2 with h | ⟨h, h'⟩
      · exact h
      · by_cases z : rdgsOf c.2 = []
        · have e := const_of z
          rw [(hC c (List.mem_of_getElem? e2)).1] at e
          rw [h]
          exact congrArg (fun x => some (HO.tup x)) e.symm
        · have := hall i hi (by rw [epure]; exact z)
          exact absurd rfl (h' _ this)
/-! ### the same notes -/
theorem sameV_seq {H : Hp} {n : Nat} {p r : Addr} {xs ys : List V} (hp : H p = some (.tup xs)) (hr : H r = some (.tup ys)) (hl : xs.length = ys.length) (hz : ys.length ≤ 100000) (h : ∀ (i : Nat) (a b : V), xs[i]? = some a → ys[i]? = some b → SameV H n a b) : SameV H (n + 1) (.ref p) (.ref r) := .inr ⟨p, r, xs, ys, rfl, rfl, hp, hr, hl, hz, h⟩
theorem sameV_ent {H : Hp} {v : V} (h : Ent v) : SameV H 0 v v := by
  rcases h with rfl | ⟨z, _, rfl⟩
  · exact .inr (.inr ⟨rfl, rfl⟩)
  · exact .inl ⟨z, rfl, rfl⟩
theorem sameV_rdg {H : Hp} {a b : Addr} {x : Rdg} (h : RdgAt H a x) (h2 : RdgAt H b x) : SameV H 2 (.ref a) (.ref b) := by
  obtain ⟨ho, r, e1, e2⟩ := h
  obtain ⟨_, r', e3, e4⟩ := h2
  refine sameV_seq e1 e3 rfl (by show 2 ≤ _; omega) fun i u v hu hv => ?_
  match i, hu, hv with
  | 0, hu, hv => cases hu; cases hv; exact .inl (sameV_ent ho.1)
  | 1, hu, hv =>
    cases hu; cases hv
    refine sameV_seq e2 e4 rfl (by rw [List.length_map]; have := ho.2.1; omega) fun i u v hu hv => ?_
    rw [hu] at hv
    cases hv
    obtain ⟨k, _, rfl⟩ := List.mem_map.mp (List.mem_of_getElem? hu)
    exact .inr (.inl ⟨_, rfl, rfl⟩)
  | n + 2, hu, hv => simp at hu
theorem sameV_note {H : Hp} {a b : Addr} {x y : Note} (h : NoteAt H a x) (h2 : NoteAt H b y) (e : toldN x = toldN y) : SameV H 4 (.ref a) (.ref b) := by
  obtain ⟨h1, h3, h4, q, h5, h6⟩ := h
  obtain ⟨k1, k3, k4, q', k5, k6⟩ := h2
  have e1 : x.1 = y.1 := congrArg (fun z : Nat × List Rdg => z.1) e
  have e2 : (x.2.map fun z => z.2) = y.2.map fun z => z.2 := congrArg (fun z : Nat × List Rdg => z.2) e
  have e3 : x.2.length = y.2.length := by have := congrArg List.length e2; rw [List.length_map, List.length_map] at this; exact this
  refine sameV_seq h5 k5 rfl (by show 2 ≤ _; omega) fun i u v hu hv => ?_
  match i, hu, hv with
  | 0, hu, hv =>
    cases hu; cases hv
    rw [e1]
    exact .inl (.inl (.inl (.inr (.inl ⟨_, rfl, rfl⟩))))
  | 1, hu, hv =>
    cases hu; cases hv
    refine sameV_seq h6 k6 (by rw [List.length_map, List.length_map, e3]) (by rw [List.length_map]; omega) fun i u v hu hv => ?_
    rw [List.getElem?_map] at hu hv
    obtain ⟨z, hz, rfl⟩ := Option.map_eq_some_iff.mp hu
    obtain ⟨z', hz', rfl⟩ := Option.map_eq_some_iff.mp hv
    have e4 := congrArg (fun l => l[i]?) e2
    rw [List.getElem?_map, List.getElem?_map, hz, hz'] at e4
    have e5 : z.2 = z'.2 := Option.some.inj e4
    have r1 := h4 z (List.mem_of_getElem? hz)
    rw [e5] at r1
    exact sameV_rdg r1 (k4 z' (List.mem_of_getElem? hz'))
  | n + 2, hu, hv => simp at hu
theorem sameV_notes {H : Hp} {t u : Addr} {ns ms : List (Addr × Note)} (ht : H t = some (.tup (ns.map fun y => V.ref y.1))) (hu : H u = some (.tup (ms.map fun y => V.ref y.1))) (hN : ∀ y ∈ ns, NoteAt H y.1 y.2) (hM : ∀ y ∈ ms, NoteAt H y.1 y.2) (e : (ns.map fun y => toldN y.2) = ms.map fun y => toldN y.2) (hl : ms.length ≤ 100000) : SameV H 5 (.ref t) (.ref u) := by
  have e3 : ns.length = ms.length := by have := congrArg List.length e; rw [List.length_map, List.length_map] at this; exact this
  refine sameV_seq ht hu (by rw [List.length_map, List.length_map, e3]) (by rw [List.length_map]; exact hl) fun i x y hx hy => ?_
  rw [List.getElem?_map] at hx hy
  obtain ⟨z, hz, rfl⟩ := Option.map_eq_some_iff.mp hx
  obtain ⟨z', hz', rfl⟩ := Option.map_eq_some_iff.mp hy
  have e4 := congrArg (fun l => l[i]?) e
  rw [List.getElem?_map, List.getElem?_map, hz, hz'] at e4
  exact sameV_note (hN z (List.mem_of_getElem? hz)) (hM z' (List.mem_of_getElem? hz')) (Option.some.inj e4)
/-! ### the columns of a script -/
theorem at5 (c k : Int) : ∃ n : Nat, atI [V.int 5, .int 30] (drawD c k 2) = some (.int ((n : Nat) : Int)) ∧ 1 ≤ n ∧ n ≤ 30 := by
  have h0 := draw_lo c k (m := 2) (by decide)
  have h1 := draw_hi c k (m := 2) (by decide)
  generalize drawD c k 2 = d at h0 h1
  obtain ⟨j, rfl⟩ : ∃ j : Nat, d = (j : Int) := ⟨d.toNat, by omega⟩
  have hj : j < 2 := by omega
  match j, hj with
  | 0, _ => exact ⟨5, rfl, by decide, by decide⟩
  | 1, _ => exact ⟨30, rfl, by decide, by decide⟩
theorem cut_ints (ns : List Int) (lo hi : Option Int) : ∃ ms : List Int, cutV (ns.map V.int) lo hi = ms.map V.int ∧ (∀ m ∈ ms, m ∈ ns) ∧ ms.length ≤ ns.length := by
  unfold cutV
  refine ⟨(ns.drop (HT.sIx (ns.map V.int).length 0 lo)).take (HT.sIx (ns.map V.int).length (ns.map V.int).length hi - HT.sIx (ns.map V.int).length 0 lo), by rw [← List.map_drop, ← List.map_take], fun m hm => List.mem_of_mem_drop (List.mem_of_mem_take hm), ?_⟩
  rw [List.length_take, List.length_drop]
  omega
theorem good_a : Good (Str.ofString "a") := ⟨by decide +kernel, by decide +kernel, fun c hc => by
  rw [show (Str.ofString "a").cps.toList = [97] from by decide +kernel] at hc
  rw [List.mem_singleton.mp hc]
  unfold Al
  omega⟩
theorem good_b : Good (Str.ofString "b") := ⟨by decide +kernel, by decide +kernel, fun c hc => by
  rw [show (Str.ofString "b").cps.toList = [98] from by decide +kernel] at hc
  rw [List.mem_singleton.mp hc]
  unfold Al
  omega⟩
def spScene (K : PySem.W.Frag) : Sp := fun vs H Q _ => ∃ (a : Addr) (ns : List Int), vs = [.ref a] ∧ SqL K H a (ns.map V.int) ∧ ns.length ≤ 63 ∧ (∀ m ∈ ns, Builtin.Int.intBits m ≤ 1048576) ∧
  ∀ (H' : Hp) (t p : Addr) (cs : List (Addr × List V)) (m : Nat), Same H H' → H' t = some (.tup [natV m, .ref p]) → H' p = some (.tup (cs.map fun x => V.ref x.1)) → ColsAt H' cs m → 1 ≤ m → m ≤ 30 → cs.length ≤ 1200 → Q (.ref t) H'
theorem scScene : FnScope ["script", "base", "pool", "many", "wide", "columns"] ["script"] (defScope sScene) := ⟨rfl, rfl, rfl, by decide +kernel, rfl, by decide +kernel, by decide +kernel⟩
theorem nd_cpm : (["cell", "pool", "many"] : List Str).Nodup := by decide +kernel
theorem ok_scene {f gC gD gW gP gCl : Addr} {fd dC dD dW dP dCl : FuncData} (F : Fun K "_law_scene" "_law_scene" sScene f fd)
    (DC : Dfn K mg "_law_cell_at" sCell gC dC ["script", "k"]) (DD : Dfn K mg "_law_draw" sDraw gD dD ["cell", "k", "many"]) (DW : Dfn K mg "_law_word_by" sWordBy gW dW ["cell", "k"]) (DP : Dfn K mg "_law_pool" sPool gP dP ["cell"]) (DCl : Dfn K mg "_law_column_by" sCol gCl dCl ["cell", "pool", "many"])
    (mlen : mg "len" = none) (mrange : mg "range" = none) (mtup : mg "tuple" = none) : FnOk P w K mg base CX0 4 f fd ["script"] (spScene K) := by
  have GC : FnOk P w K mg base CX0 3 gC dC ["script", "k"] (spCell K) := (ok_cell DC.fn mlen).mono (by decide)
  have GD : FnOk P w K mg base CX0 3 gD dD ["cell", "k", "many"] spDraw := (ok_draw DD.fn).mono (by decide)
  have GP : FnOk P w K mg base CX0 3 gP dP ["cell"] spPool := ok_pool DP.fn DD DW mrange mlen
  have GCl : FnOk P w K mg base CX0 3 gCl dCl ["cell", "pool", "many"] spCol := (ok_col DCl.fn DD mrange mlen mtup).mono (by decide)
  refine F.ok scScene (fun vs H Q E h => ?_) (fun cdv A outer s H vs Q E hr h => ?_)
  · obtain ⟨a, ns, rfl, _⟩ := h
    rfl
  · obtain ⟨a, ns, rfl, hS, hn, hb, q⟩ := h
    refine ⟨_, pss_cons (ps_set (i := 1) scScene.nd rfl (Or.inl rfl) (pe_call GC hr (by rfl) DC.at_ DC.fn.kp DC.bn .nil pass0 (pa_cons (pv 0) (pa_cons pe_int pa_nil))))
      (pss_cons (ps_set (i := 2) scScene.nd rfl (Or.inr rfl) (pe_call GP hr (by rfl) DP.at_ DP.fn.kp DP.bn .nil pass0 (pa_cons (pv 1) pa_nil)))
      (pss_cons (ps_set (i := 3) scScene.nd rfl (Or.inr rfl) (pe_op op_add pe_int (pe_call GD hr (by rfl) DD.at_ DD.fn.kp DD.bn .nil pass0 (pa_cons (pv 1) (pa_cons pe_int (pa_cons (pe_ix ix_list (pe_lst (pa_cons pe_int (pa_cons pe_int pa_nil))) (pe_call GD hr (by rfl) DD.at_ DD.fn.kp DD.bn .nil pass0 (pa_cons (pv 1) (pa_cons pe_int (pa_cons pe_int pa_nil)))) (fun _ _ => rfl)) pa_nil))))))
      (pss_cons (ps_set (i := 4) scScene.nd rfl (Or.inl rfl) pe_int)
      (pss_cons (ps_mid (ps_if (pt_cmpR op_eq (pe_call GD hr (by rfl) DD.at_ DD.fn.kp DD.bn .nil pass0 (pa_cons (pv 1) (pa_cons pe_int (pa_cons pe_int pa_nil)))) pe_int (nomark _))
        (pss_cons (ps_set (i := 2) scScene.nd rfl (Or.inr rfl) (pe_lst (pa_cons pe_str (pa_cons pe_str pa_nil)))) (pss_cons (ps_set (i := 3) scScene.nd rfl (Or.inr rfl) pe_int) (pss_one (ps_set (i := 4) scScene.nd rfl (Or.inl rfl) (pe_op op_add pe_int (pe_call GD hr (by rfl) DD.at_ DD.fn.kp DD.bn .nil pass0 (pa_cons (pv 1) (pa_cons pe_int (pa_cons pe_int pa_nil)))))))))
        pss_nil))
      (pss_cons (ps_setC (i := 5) (Nc := ["cell", "pool", "many"]) (mp := [none, some 2, some 3]) rfl scScene.nd rfl rfl (CompOk.of (by rfl)) (pi_list (pe_slice sl_lst (pv 0) (po_some pe_int) (po_some pe_int)))
        (fun cl C s H fp => ⟨pg_name (i := 0) nd_cpm rfl (Or.inl rfl), pts_nil, pe_call GCl hr (by rfl) DCl.at_ DCl.fn.kp DCl.bn .nil pass0 (pa_cons (pv 0) (pa_cons (pv 1) (pa_cons (pv 2) pa_nil)))⟩))
      (pss_one (ps_ret (pe_tup (pa_cons (pv 3) (pa_cons (pe_callTy call_tuple_of (by rfl) mtup boot_tuple (pa_cons (pe_slice sl_lst (pe_op op_rep (pv 5) (pv 4)) po_none (po_some pe_int)) pa_nil)) pa_nil)))))))))), ?_⟩
    have hc := bits_cell hb 0
    refine ⟨_, rfl, a, ns, 0, rfl, hS, by decide, ?_⟩
    refine ⟨_, rfl, _, rfl, hc, fun pl ws hpl hwl hwg => ?_⟩
    have S1 := same_upd (o := .lst (ws.map V.str)) hpl
    obtain ⟨n, en, n1, n2⟩ := at5 (cellD ns 0) 72
    have hpool : upd H pl (.lst (ws.map V.str)) pl = some (.lst (ws.map V.str)) := upd_same
    generalize upd H pl (.lst (ws.map V.str)) = H1 at S1 hpool
    refine ⟨_, rfl, few (by show 2 ≤ _; omega), fun l hl => ?_⟩
    have S2 := same_upd (o := .lst [V.int 5, .int 30]) hl
    refine ⟨_, rfl, _, _, _, rfl, hc, (by show (0 : Int) ≤ 72; decide), (by show (72 : Int) ≤ 100000; decide), (by show (0 : Int) < 2; decide), l, _, _, _, rfl, rfl, SqL.of upd_same, en, _, _, _, rfl, hc, (by show (0 : Int) ≤ 71; decide), (by show (71 : Int) ≤ 100000; decide), (by show (0 : Int) < ((n : Nat) : Int); omega), _, _, rfl, rfl, ?_⟩
    have d0 := draw_lo (cellD ns 0) 71 (m := ((n : Nat) : Int)) (by omega)
    have d1 := draw_hi (cellD ns 0) 71 (m := ((n : Nat) : Int)) (by omega)
    obtain ⟨m, hm⟩ : ∃ m : Nat, 1 + drawD (cellD ns 0) 71 ((n : Nat) : Int) = (m : Int) := ⟨(1 + drawD (cellD ns 0) 71 ((n : Nat) : Int)).toNat, by omega⟩
    have hpool2 := S2 _ _ hpool
    have S02 := S1.trans S2
    generalize upd H1 l (.lst [V.int 5, .int 30]) = H2 at S2 hpool2 S02
    refine ⟨fun σ' H' => ∃ (pl : Addr) (ws : List Str) (m k : Nat), σ' = [some (.ref a), some (.int (cellD ns 0)), some (.ref pl), some (.int ((m : Nat) : Int)), some (.int ((k : Nat) : Int)), none] ∧ Same H H' ∧ H' pl = some (.lst (ws.map V.str)) ∧ ws.length ≤ 10 ∧ (∀ z ∈ ws, Good z) ∧ 1 ≤ m ∧ m ≤ 30 ∧ k ≤ 50, ?_, ?_⟩
    · refine ⟨_, rfl, _, _, _, rfl, hc, (by show (0 : Int) ≤ 73; decide), (by show (73 : Int) ≤ 100000; decide), (by show (0 : Int) < 8; decide), rfl, _, rfl, ?_⟩
      refine ite2 (fun _ => ?_) (fun _ => ⟨pl, ws, m, 1, (by show [some (V.ref a), some (V.int (cellD ns 0)), some (V.ref pl), some (V.int (1 + drawD (cellD ns 0) 71 ((n : Nat) : Int))), some (V.int 1), none] = _; rw [hm]; rfl), S02, hpool2, by omega, hwg, by omega, by omega, by omega⟩)
      refine ⟨few (by show 2 ≤ _; omega), fun l3 hl3 => ?_⟩
      have e0 := draw_lo (cellD ns 0) 74 (m := 39) (by decide)
      have e1 := draw_hi (cellD ns 0) 74 (m := 39) (by decide)
      obtain ⟨k, hk⟩ : ∃ k : Nat, 2 + drawD (cellD ns 0) 74 39 = (k : Int) := ⟨(2 + drawD (cellD ns 0) 74 39).toNat, by omega⟩
      refine ⟨_, rfl, _, _, _, rfl, hc, (by show (0 : Int) ≤ 74; decide), (by show (74 : Int) ≤ 100000; decide), (by show (0 : Int) < 39; decide), _, _, rfl, rfl, ?_⟩
      refine ⟨l3, [Str.ofString "a", Str.ofString "b"], 2, k, (by show [some (V.ref a), some (V.int (cellD ns 0)), some (V.ref l3), some (V.int 2), some (V.int (2 + drawD (cellD ns 0) 74 39)), none] = _; rw [hk]; rfl), S02.trans (same_upd hl3), upd_same, by show 2 ≤ 10; omega, fun z hz => ?_, by omega, by omega, by omega⟩
      rcases List.mem_cons.mp hz with e | hz
      · rw [e]; exact good_a
      · rw [List.mem_singleton.mp hz]; exact good_b
    · clear hpool2 S02 S2 hm d0 d1 hwg hwl hpool S1 hpl
      rintro σ' H3 ⟨pl, ws, m, k, rfl, S3, hpool3, hwl, hwg, m1, m30, hk⟩
      obtain ⟨ms, ecut, hms, hml⟩ := cut_ints ns (some 1) (some 61)
      refine ⟨_, rfl, _, rfl, _, rfl, a, _, rfl, S3.seq hS, fun p4 hp4 => ?_⟩
      rw [ecut]
      have S4 := same_upd (o := .lst (ms.map V.int)) hp4
      have h4 : upd H3 p4 (.lst (ms.map V.int)) p4 = some (.lst (ms.map V.int)) := upd_same
      have hpool4 := S4 _ _ hpool3
      have S34 := S3.trans S4
      generalize upd H3 p4 (.lst (ms.map V.int)) = H4 at S34 h4 hpool4
      refine ⟨p4, rfl, ⟨_, SqL.of h4⟩, comp_grow (as := ms) (v := V.int) (fun i acc H' => ∃ cs : List (Addr × List V), acc = cs.map (fun x => V.ref x.1) ∧ cs.length = i ∧ Same H4 H' ∧ ColsAt H' cs m) (fun i acc H' _ ⟨_, _, _, S, _⟩ => src_list (SqL.of (S _ _ h4))) (few (by omega))
        ⟨[], rfl, rfl, Same.refl _, fun _ z => nomatch z⟩ (fun i acc H' ⟨cs, e, hl, _⟩ => by rw [e, List.length_map, hl]) ?_ ?_⟩
      · rintro i x acc H' hx ⟨cs, rfl, hcl, S, hC⟩ kc hkc
        refine ⟨_, rfl, _, rfl, _, rfl, x, pl, m, ws, rfl, hb x (hms x (List.mem_of_getElem? hx)), S _ _ hpool4, by omega, hwg, m1, by omega, fun p es hp hel hE => ?_⟩
        have S' := same_upd (o := .tup es) hp
        refine hkc _ _ ⟨cs ++ [(p, es)], by rw [List.map_append]; rfl, by rw [List.length_append, hcl]; rfl, S.trans S', fun y hy => ?_⟩
        rcases List.mem_append.mp hy with hy | hy
        · exact (hC.mono S') y hy
        · rw [List.mem_singleton.mp hy]
          exact ⟨upd_same, hel, hE⟩
      · rintro acc H5 ⟨cs, rfl, hcl, S5, hC5⟩ D hD
        have S6 := same_upd (o := .lst (cs.map fun x => V.ref x.1)) hD
        have hD6 : upd H5 D (.lst (cs.map fun x => V.ref x.1)) D = some (.lst (cs.map fun x => V.ref x.1)) := upd_same
        have hC6 := hC5.mono S6
        have S46 := (S34.trans S5).trans S6
        generalize upd H5 D (.lst (cs.map fun x => V.ref x.1)) = H6 at S46 hD6 hC6
        have hcs : cs.length ≤ 63 := by omega
        have hmul : cs.length * k ≤ 63 * 50 := Nat.mul_le_mul hcs hk
        refine ⟨_, rfl, _, rfl, _, rfl, D, ((k : Nat) : Int), _, rfl, rfl, hD6, by omega, by omega, few (by rw [List.length_map, Int.toNat_natCast]; omega), fun p7 hp7 => ?_⟩
        rw [Int.toNat_natCast]
        have em : (List.replicate k (cs.map fun x => V.ref x.1)).flatten = ((List.replicate k cs).flatten).map fun x => V.ref x.1 := by
          rw [List.map_flatten, List.map_replicate]
        rw [em]
        have S7 := same_upd (o := .lst (((List.replicate k cs).flatten).map fun x => V.ref x.1)) hp7
        have h7 : upd H6 p7 (.lst (((List.replicate k cs).flatten).map fun x => V.ref x.1)) p7 = some (.lst (((List.replicate k cs).flatten).map fun x => V.ref x.1)) := upd_same
        refine ⟨_, rfl, p7, _, rfl, SqL.of h7, fun p8 hp8 => ?_⟩
        rw [show (1200 : Int) = ((1200 : Nat) : Int) from rfl, cutTake]
        have S8 := same_upd (o := .lst ((((List.replicate k cs).flatten).take 1200).map fun x => V.ref x.1)) hp8
        refine ⟨p8, _, rfl, .inl ⟨SqL.of upd_same, fun p9 hp9 => ?_⟩⟩
        have S9 := same_upd (o := .tup ((((List.replicate k cs).flatten).take 1200).map fun x => V.ref x.1)) hp9
        refine ⟨few (by show 2 ≤ _; omega), fun t ht => ?_⟩
        have S10 := same_upd (o := .tup [natV m, .ref p9]) ht
        have S610 := ((S7.trans S8).trans S9).trans S10
        refine q _ t p9 (((List.replicate k cs).flatten).take 1200) m (S46.trans S610) upd_same (S10 _ _ upd_same) (fun x hx => ?_) m1 m30 (by rw [List.length_take]; omega)
        have hx := List.mem_of_mem_take hx
        obtain ⟨y, hy, hxy⟩ := List.mem_flatten.mp hx
        rw [List.eq_of_mem_replicate hy] at hxy
        exact (hC6.mono S610) x hxy
theorem headS_eq (es : List V) : headS es = Str.join (Str.ofString " | ") (es.map entS) := rfl
/-! ### an apparatus written -/
def spEW : Sp := fun vs H Q _ => ∃ v, vs = [v] ∧ Ent v ∧ Q (.str (entS v)) H
theorem scEW : FnScope ["entry"] ["entry"] (defScope sEW) := ⟨rfl, rfl, rfl, by decide +kernel, rfl, by decide +kernel, by decide +kernel⟩
theorem ok_ew {f : Addr} {fd : FuncData} (F : Fun K "entry_written" "entry_written" sEW f fd) {tn : Tok} (mN : mg "NO_ENTRY" = some (.str (Str.ofString "-") tn)) : FnOk P w K mg base CX0 1 f fd ["entry"] spEW := by
  refine Fun.okR F scEW (fun vs H Q E h => ?_) (fun cdv A outer s H vs Q Q2 E hr h hq => ?_)
  · obtain ⟨v, rfl, _⟩ := h
    rfl
  · obtain ⟨v, rfl, hv, q⟩ := h
    refine ⟨_, pss_one (ps_ret (pe_ifExp (pt_cmpR op_isN (pv 0) pe_non (nomark _)) (pe_glob (v := .str (Str.ofString "-")) (by rfl) mN ⟨_, rfl⟩) (pv 0))), ?_⟩
    have go : Q2 (.str (entS v)) H := hq _ _ (Rst.same (Same.refl H) q)
    refine ⟨_, rfl, rfl, _, rfl, ?_⟩
    rcases hv with rfl | ⟨z, _, rfl⟩
    · exact iteY rfl go
    · exact iteK (fun z => nomatch z) ⟨_, rfl, go⟩
def spRW (K : PySem.W.Frag) : Sp := fun vs H Q _ => ∃ (e : V) (r : Addr) (rows : List Nat), vs = [e, .ref r] ∧ SqT K H r (rows.map natV) ∧ RdgOk (e, rows) ∧ Q (.str (rdgS (e, rows))) H
theorem scRW : FnScope ["entry", "rows"] ["entry", "rows"] (defScope sRW) := ⟨rfl, rfl, rfl, by decide +kernel, rfl, by decide +kernel, by decide +kernel⟩
theorem nd_row : (["row"] : List Str).Nodup := by decide +kernel
theorem ok_rw {f gE : Addr} {fd dE : FuncData} (F : Fun K "reading_written" "reading_written" sRW f fd) (DE : Dfn K mg "entry_written" sEW gE dE ["entry"]) (mstr : mg "str" = none) {tn : Tok} (mN : mg "NO_ENTRY" = some (.str (Str.ofString "-") tn)) : FnOk P w K mg base CX0 2 f fd ["entry", "rows"] (spRW K) := by
  have GE : FnOk P w K mg base CX0 1 gE dE ["entry"] spEW := ok_ew DE.fn mN
  refine Fun.okR F scRW (fun vs H Q E h => ?_) (fun cdv A outer s H vs Q Q2 E hr h hq => ?_)
  · obtain ⟨e, r, rows, rfl, _⟩ := h
    rfl
  · obtain ⟨e, r, rows, rfl, hr1, ho, q⟩ := h
    refine ⟨_, pss_one (ps_ret (pe_op op_add_str (pe_op op_add_str (pe_call GE hr (by rfl) DE.at_ DE.fn.kp DE.bn .nil pass0 (pa_cons (pv 0) pa_nil)) pe_str) (pe_bm PySem.F.plainAttrs_str PySem.F.slot_str_join PySem.F.type_str_join mt_join pe_str (pa_cons (pe_comp (Nc := ["row"]) (mp := [none]) rfl (CompOk.of (by rfl)) (pi_tup (pv 1))
      (fun cl C s H fp => ⟨pg_name (i := 0) nd_row rfl (Or.inl rfl), pts_nil, pe_callTy call_str_any (by rfl) mstr boot_str (pa_cons (pv 0) pa_nil)⟩)) pa_nil)))), ?_⟩
    have l12 : (entS e).length ≤ 12 := ent_len ho.1
    have l1 : (Str.ofString " ").length = 1 := by decide +kernel
    have hrl : (Str.join (Str.ofString ",") (rows.map fun n => numS ((n : Nat) : Int))).length ≤ 100 := rows_len ho
    refine ⟨_, rfl, e, rfl, ho.1, _, _, rfl, rfl, few (by rw [l1]; omega), rfl, _, rfl, r, rfl, ⟨_, hr1⟩, comp_map (as := rows) (v := natV) (fun n => .str (numS ((n : Nat) : Int))) (src_tup hr1) (few (by have h30 : rows.length ≤ 30 := ho.2.1; omega)) (fun n hn k hk => ?_) (fun D hD => ?_)⟩
    · have := ho.2.2 n hn
      exact ⟨_, rfl, .inl ⟨((n : Nat) : Int), rfl, log_ok (by omega) (by omega), hk⟩⟩
    · refine ⟨_, D, rows.map fun n => numS ((n : Nat) : Int), rfl, rfl, .inl (SqL.of (by rw [upd_same, List.map_map]; rfl)), ?_, ?_⟩
      · have h2 : (Str.ofString ",").length = 1 := by decide +kernel
        have h3 := sum_le (ws := rows.map fun n => numS ((n : Nat) : Int)) (b := 2) fun z hz => by
          obtain ⟨n, hn, rfl⟩ := List.mem_map.mp hz
          exact numS_le (k := 1) (by have := ho.2.2 n hn; omega)
        have h4 : rows.length ≤ 30 := ho.2.1
        rw [List.length_map] at h3
        rw [h2, List.length_map]
        omega
      · rw [tjoin]
        refine ⟨_, _, rfl, rfl, few (by rw [app_len, l1]; omega), hq _ _ (Rst.same (same_upd hD) q)⟩
def spNW (K : PySem.W.Frag) : Sp := fun vs H Q _ => ∃ (n : Nat) (p : Addr) (xs : List (Addr × Rdg)), vs = [natV n, .ref p] ∧ SqT K H p (xs.map fun y => V.ref y.1) ∧ (∀ y ∈ xs, RdgAt H y.1 y.2) ∧ xs.length ≤ 30 ∧ n < 10000 ∧ Q (.str (noteS (n, xs))) H
theorem scNW : FnScope ["number", "readings"] ["number", "readings"] (defScope sNW) := ⟨rfl, rfl, rfl, by decide +kernel, rfl, by decide +kernel, by decide +kernel⟩
theorem nd_er : (["entry", "rows"] : List Str).Nodup := by decide +kernel
theorem pg_tupK {X : Cx} {es : List Expr} {k : Nat} {t : TGs} {n : Nat} {pos : Pos} (hK : X.K = K) (hc : X.calm = true) (h : PGs X es t)
    (hn : (assignEach es X.env).length = n := by rfl) (hst : (assignEach es X.env).findIdx? (·.1) = none := by rfl) : PG X (.Tuple es k pos) (gTup K n t) := by
  subst hK
  exact pg_tup hc h hn hst
theorem ok_nw {f gE gR : Addr} {fd dE dR : FuncData} (F : Fun K "note_written" "note_written" sNW f fd) (DE : Dfn K mg "entry_written" sEW gE dE ["entry"]) (DR : Dfn K mg "reading_written" sRW gR dR ["entry", "rows"]) (mstr : mg "str" = none) {tn : Tok} (mN : mg "NO_ENTRY" = some (.str (Str.ofString "-") tn)) : FnOk P w K mg base CX0 3 f fd ["number", "readings"] (spNW K) := by
  have GR : FnOk P w K mg base CX0 2 gR dR ["entry", "rows"] (spRW K) := ok_rw DR.fn DE mstr mN
  refine Fun.okR F scNW (fun vs H Q E h => ?_) (fun cdv A outer s H vs Q Q2 E hr h hq => ?_)
  · obtain ⟨n, p, xs, rfl, _⟩ := h
    rfl
  · obtain ⟨n, p, xs, rfl, hp, hX, hl, hn, q⟩ := h
    refine ⟨_, pss_one (ps_ret (pe_op op_add_str (pe_op op_add_str (pe_callTy call_str_any (by rfl) mstr boot_str (pa_cons (pv 0) pa_nil)) pe_str) (pe_bm PySem.F.plainAttrs_str PySem.F.slot_str_join PySem.F.type_str_join mt_join pe_str (pa_cons (pe_comp (Nc := ["entry", "rows"]) (mp := [none, none]) rfl (CompOk.of (by rfl)) (pi_tup (pv 1))
      (fun cl C s H fp => ⟨pg_tupK (K := K) (n := 2) rfl rfl (pgs_cons (pg_name (i := 0) nd_er rfl (Or.inl rfl)) (pgs_cons (pg_name (i := 1) nd_er rfl (Or.inl rfl)) pgs_nil)), pts_nil, pe_call GR hr (by rfl) DR.at_ DR.fn.kp DR.bn .nil pass0 (pa_cons (pv 0) (pa_cons (pv 1) pa_nil))⟩)) pa_nil)))), ?_⟩
    have l2 : (Str.ofString ": ").length = 2 := by decide +kernel
    have l4 := numS_le (m := n) (k := 3) (by omega)
    have hrl := rdgs_len (fun y hy => (hX y hy).1) hl
    obtain ⟨ra, hra⟩ : ∃ ra : Addr × Rdg → Addr, ∀ y ∈ xs, H y.1 = some (.tup [y.2.1, .ref (ra y)]) ∧ H (ra y) = some (.tup (y.2.2.map natV)) := by
      classical
      refine ⟨fun y => if h : ∃ r, H y.1 = some (.tup [y.2.1, .ref r]) ∧ H r = some (.tup (y.2.2.map natV)) then h.choose else y.1, fun y hy => ?_⟩
      have h := (hX y hy).2
      dsimp only
      rw [dif_pos h]
      exact h.choose_spec
    refine ⟨_, rfl, .inl ⟨((n : Nat) : Int), rfl, log_ok (by omega) (by omega), _, _, rfl, rfl, few (by rw [l2]; show (numS ((n : Nat) : Int)).length + 2 ≤ _; omega), rfl, _, rfl, p, rfl, ⟨_, hp⟩, comp_pair (K := K) (as := xs) (v := fun y => V.ref y.1) (x := fun y => y.2.1) (y := fun y => V.ref (ra y)) (fun y => .str (rdgS y.2)) (src_tup hp) (few (by omega)) (fun y hy => ⟨y.1, rfl, SqT.of (hra y hy).1⟩) (fun y hy k hk => ?_) (fun D hD => ?_)⟩⟩
    · exact ⟨_, rfl, _, rfl, y.2.1, ra y, y.2.2, rfl, SqT.of (hra y hy).2, (hX y hy).1, hk⟩
    · refine ⟨_, D, xs.map fun y => rdgS y.2, rfl, rfl, .inl (SqL.of (by rw [upd_same, List.map_map]; rfl)), ?_, ?_⟩
      · have h2 : (Str.ofString "; ").length = 2 := by decide +kernel
        have h3 := sum_le (ws := xs.map fun y => rdgS y.2) (b := 113) fun z hz => by
          obtain ⟨y, hy, rfl⟩ := List.mem_map.mp hz
          exact rdg_len (hX y hy).1
        rw [List.length_map] at h3
        rw [h2, List.length_map]
        omega
      · rw [tjoin]
        refine ⟨_, _, rfl, rfl, few (by rw [app_len, l2]; show (numS ((n : Nat) : Int)).length + 2 + _ ≤ 100000; omega), hq _ _ (Rst.same (same_upd hD) q)⟩
def spAW (K : PySem.W.Frag) : Sp := fun vs H Q _ => ∃ (p r : Addr) (es : List V) (ns : List (Addr × Note)), vs = [.ref p, .ref r] ∧ SqT K H p es ∧ (∀ e ∈ es, Ent e) ∧ SqT K H r (ns.map fun y => V.ref y.1) ∧ (∀ y ∈ ns, NoteAt H y.1 y.2) ∧ es.length ≤ 1200 ∧ ns.length ≤ 1200 ∧ Q (.str (appS es ns)) H
theorem scAW : FnScope ["entries", "notes", "lines"] ["entries", "notes"] (defScope sAW) := ⟨rfl, rfl, rfl, by decide +kernel, rfl, by decide +kernel, by decide +kernel⟩
theorem nd_entry : (["entry"] : List Str).Nodup := by decide +kernel
theorem nd_nr : (["number", "readings"] : List Str).Nodup := by decide +kernel
theorem ok_aw {f gE gR gN : Addr} {fd dE dR dN : FuncData} (F : Fun K "apparatus_written" "apparatus_written" sAW f fd) (DE : Dfn K mg "entry_written" sEW gE dE ["entry"]) (DR : Dfn K mg "reading_written" sRW gR dR ["entry", "rows"]) (DN : Dfn K mg "note_written" sNW gN dN ["number", "readings"]) (mstr : mg "str" = none) {tn : Tok} (mN : mg "NO_ENTRY" = some (.str (Str.ofString "-") tn)) : FnOk P w K mg base CX0 4 f fd ["entries", "notes"] (spAW K) := by
  have GE : FnOk P w K mg base CX0 3 gE dE ["entry"] spEW := (ok_ew DE.fn mN).mono (by decide)
  have GN : FnOk P w K mg base CX0 3 gN dN ["number", "readings"] (spNW K) := ok_nw DN.fn DE DR mstr mN
  refine Fun.okR F scAW (fun vs H Q E h => ?_) (fun cdv A outer s H vs Q Q2 E hr h hq => ?_)
  · obtain ⟨p, r, es, ns, rfl, _⟩ := h
    rfl
  · obtain ⟨p, r, es, ns, rfl, hp, hE, hr1, hN, hel, hnl, q⟩ := h
    refine ⟨_, pss_cons (ps_set (i := 2) scAW.nd rfl (Or.inl rfl) (pe_lst (pa_cons (pe_bm PySem.F.plainAttrs_str PySem.F.slot_str_join PySem.F.type_str_join mt_join pe_str (pa_cons (pe_comp (Nc := ["entry"]) (mp := [none]) rfl (CompOk.of (by rfl)) (pi_tup (pv 0))
      (fun cl C s H fp => ⟨pg_name (i := 0) nd_entry rfl (Or.inl rfl), pts_nil, pe_call GE hr (by rfl) DE.at_ DE.fn.kp DE.bn .nil pass0 (pa_cons (pv 0) pa_nil)⟩)) pa_nil)) pa_nil)))
      (pss_cons (ps_expr (pe_bm PySem.F.plainAttrs_list PySem.F.slot_list_extend PySem.F.type_list_extend mt_extend (pv 2) (pa_cons (pe_comp (Nc := ["number", "readings"]) (mp := [none, none]) rfl (CompOk.of (by rfl)) (pi_tup (pv 1))
      (fun cl C s H fp => ⟨pg_tupK (K := K) (n := 2) rfl rfl (pgs_cons (pg_name (i := 0) nd_nr rfl (Or.inl rfl)) (pgs_cons (pg_name (i := 1) nd_nr rfl (Or.inl rfl)) pgs_nil)), pts_nil, pe_call GN hr (by rfl) DN.at_ DN.fn.kp DN.bn .nil pass0 (pa_cons (pv 0) (pa_cons (pv 1) pa_nil))⟩)) pa_nil)))
      (pss_one (ps_ret (pe_bm PySem.F.plainAttrs_str PySem.F.slot_str_join PySem.F.type_str_join mt_join pe_str (pa_cons (pv 2) pa_nil))))), ?_⟩
    refine ⟨rfl, _, rfl, p, rfl, ⟨_, hp⟩, comp_map (as := es) (v := id) (fun e => .str (entS e)) (by rw [List.map_id]; exact src_tup hp) (few (by omega)) (fun e he k hk => ⟨_, rfl, e, rfl, hE e he, hk⟩) (fun D hD => ?_)⟩
    have S1 := same_upd (o := .lst (es.map fun e => V.str (entS e))) hD
    have h2 : (Str.ofString " | ").length = 3 := by decide +kernel
    have h3 := sum_le (ws := es.map entS) (b := 12) fun z hz => by
      obtain ⟨e, he, rfl⟩ := List.mem_map.mp hz
      exact ent_len (hE e he)
    rw [List.length_map] at h3
    refine ⟨_, D, es.map entS, rfl, rfl, .inl (SqL.of (by rw [upd_same, List.map_map]; rfl)), by rw [h2, List.length_map]; omega, ?_⟩
    rw [tjoin, ← headS_eq]
    refine ⟨few (by show 1 ≤ _; omega), fun l hl => ?_⟩
    have S2 := same_upd (o := .lst [V.str (headS es)]) hl
    have S12 := S1.trans S2
    have hl2 : upd (upd H D (.lst (es.map fun e => V.str (entS e)))) l (.lst [V.str (headS es)]) l = some (.lst [V.str (headS es)]) := upd_same
    have hln : H l = none := S1.free hl
    generalize hH2 : upd (upd H D (.lst (es.map fun e => V.str (entS e)))) l (.lst [V.str (headS es)]) = H2 at S12 hl2
    have hr2 := sameT S12 hr1
    have hN2 : ∀ y ∈ ns, NoteAt H2 y.1 y.2 := fun y hy => (hN y hy).mono S12
    obtain ⟨qa, hqa⟩ : ∃ qa : Addr × Note → Addr, ∀ y ∈ ns, H2 y.1 = some (.tup [natV y.2.1, .ref (qa y)]) ∧ H2 (qa y) = some (.tup (y.2.2.map fun z => V.ref z.1)) := by
      classical
      refine ⟨fun y => if h : ∃ q, H2 y.1 = some (.tup [natV y.2.1, .ref q]) ∧ H2 q = some (.tup (y.2.2.map fun z => V.ref z.1)) then h.choose else y.1, fun y hy => ?_⟩
      have h := (hN2 y hy).2.2.2
      dsimp only
      rw [dif_pos h]
      exact h.choose_spec
    refine ⟨_, rfl, .inl ⟨rfl, _, SqL.of hl2⟩, _, rfl, r, rfl, ⟨_, hr2⟩, comp_pair (K := K) (as := ns) (v := fun y => V.ref y.1) (x := fun y => natV y.2.1) (y := fun y => V.ref (qa y)) (fun y => .str (noteS y.2)) (src_tup hr2) (few (by omega)) (fun y hy => ⟨y.1, rfl, SqT.of (hqa y hy).1⟩) (fun y hy k hk => ?_) (fun D3 hD3 => ?_)⟩
    · exact ⟨_, rfl, _, rfl, y.2.1, qa y, y.2.2, rfl, SqT.of (hqa y hy).2, (hN2 y hy).2.2.1, (hN2 y hy).2.1, (hN2 y hy).1, hk⟩
    · have S3 := same_upd (o := .lst (ns.map fun y => V.str (noteS y.2))) hD3
      have hl3 := S3 _ _ hl2
      refine ⟨l, D3, _, _, rfl, rfl, hl3, upd_same, few (by rw [List.length_map]; show 1 + _ ≤ _; omega), ?_⟩
      refine ⟨rfl, _, rfl, _, l, headS es :: ns.map (fun y => noteS y.2), rfl, rfl, .inl (SqL.of (by rw [upd_same, List.map_cons, List.map_map]; rfl)), ?_, ?_⟩
      · have hh := head_len hE
        have h5 : (Str.ofString "\n").length = 1 := by decide +kernel
        have h6 := sum_le (ws := ns.map fun y => noteS y.2) (b := 3500) fun z hz => by
          obtain ⟨y, hy, rfl⟩ := List.mem_map.mp hz
          exact note_len (hN y hy)
        rw [List.length_map] at h6
        rw [h5, List.map_cons, List.sum_cons, List.length_cons, List.length_map]
        omega
      · rw [tjoin]
        exact hq _ _ (Rst.same (same_to (S12.trans S3) hln) q)
/-! ### the law's text: its entries -/
def spLE : Sp := fun vs H Q _ => ∃ v, vs = [v] ∧ Ent v ∧ Q (.str (entS v)) H
theorem scLE : FnScope ["entry"] ["entry"] (defScope sLE) := ⟨rfl, rfl, rfl, by decide +kernel, rfl, by decide +kernel, by decide +kernel⟩
theorem ok_le {f : Addr} {fd : FuncData} (F : Fun K "_law_entry" "_law_entry" sLE f fd) : FnOk P w K mg base CX0 1 f fd ["entry"] spLE := by
  refine Fun.okR F scLE (fun vs H Q E h => ?_) (fun cdv A outer s H vs Q Q2 E hr h hq => ?_)
  · obtain ⟨v, rfl, _⟩ := h
    rfl
  · obtain ⟨v, rfl, hv, q⟩ := h
    refine ⟨_, pss_cons (ps_if (pt_cmpR op_isN (pv 0) pe_non (nomark _)) (pss_one (ps_ret pe_str)) pss_nil) (pss_one (ps_ret (pv 0))), ?_⟩
    have go : Q2 (.str (entS v)) H := hq _ _ (Rst.same (Same.refl H) q)
    refine ⟨_, rfl, rfl, _, rfl, ?_⟩
    rcases hv with rfl | ⟨z, _, rfl⟩
    · exact iteY rfl go
    · exact iteK (fun z => nomatch z) ⟨_, rfl, go⟩
theorem take_snoc {α : Type} {xs : List α} {i : Nat} {x : α} (h : xs[i]? = some x) : xs.take (i + 1) = xs.take i ++ [x] := by
  have hi := (List.getElem?_eq_some_iff.mp h).1
  rw [List.take_succ_eq_append_getElem hi]
  have : xs[i] = x := by
    have := List.getElem?_eq_getElem hi
    rw [h] at this
    exact (Option.some.inj this).symm
  rw [this]
theorem app_turn {es : List V} {ns : List (Addr × Note)} {i : Nat} {x : Addr × Note} (h : ns[i]? = some x) : appS es (ns.take (i + 1)) = appS es (ns.take i) ++ Str.ofString "\n" ++ noteS x.2 := by
  have e : appS es (ns.take (i + 1)) = Str.join (Str.ofString "\n") ((headS es :: (ns.take i).map fun y => noteS y.2) ++ [noteS x.2]) := by
    unfold appS
    rw [take_snoc h, List.map_append]
    rfl
  rw [e, join_snoc (Str.ofString "\n") (noteS x.2) (List.cons_ne_nil _ _)]
  rfl
theorem app_len' {H : Hp} {es : List V} {ns : List (Addr × Note)} (hE : ∀ e ∈ es, Ent e) (hN : ∀ y ∈ ns, NoteAt H y.1 y.2) (h1 : es.length ≤ 1200) (h2 : ns.length ≤ 1200) : (appS es ns).length ≤ 6000000 := by
  have hh := head_len hE
  have hj := join_len (Str.ofString "\n") (headS es :: ns.map fun y => noteS y.2)
  have h5 : (Str.ofString "\n").length = 1 := by decide +kernel
  have h6 := sum_le (ws := ns.map fun y => noteS y.2) (b := 3500) fun z hz => by
    obtain ⟨y, hy, rfl⟩ := List.mem_map.mp hz
    exact note_len (hN y hy)
  rw [List.length_map] at h6
  rw [h5, List.map_cons, List.sum_cons, List.length_cons, List.length_map] at hj
  unfold appS
  omega
theorem few2 {n : Nat} (h : n ≤ 16000000) : n ≤ sizeLine := by rw [szl]; omega
/-! ### columns with their base entry added behind; texts and what they tell -/
theorem num1200 : ∀ n, n < 1200 → pnum (numS ((n : Nat) : Int)) 1000000000000000000000000000000 = some ((n : Nat) : Int) := by decide +kernel
theorem cut_tail (x : V) (r : List V) : cutV (x :: r) (some 1) none = r := by
  show (List.drop (HT.sIx (r.length + 1) 0 (some 1)) (x :: r)).take (HT.sIx (r.length + 1) (r.length + 1) none - HT.sIx (r.length + 1) 0 (some 1)) = r
  have e1 : HT.sIx (r.length + 1) 0 (some 1) = 1 := by
    unfold HT.sIx
    simp
  have e2 : HT.sIx (r.length + 1) (r.length + 1) none = r.length + 1 := rfl
  rw [e1, e2]
  show List.take (r.length + 1 - 1) r = r
  exact List.take_of_length_le (by omega)
def longer (k : Nat) (es : List V) : List V := es ++ List.replicate k (es.getD 0 .non)
theorem longer_zero {es : List V} (h : 1 ≤ es.length) (k : Nat) : (longer k es).getD 0 .non = es.getD 0 .non := by
  unfold longer
  rw [List.getD_eq_getElem?_getD, List.getElem?_append_left (by omega), ← List.getD_eq_getElem?_getD]
theorem longer_ents {es : List V} (h : 1 ≤ es.length) (k : Nat) : entTo (longer k es) (longer k es).length = entTo es es.length := by
  unfold entTo
  rw [List.take_length, List.take_length, longer_zero h]
  have e : longer k es = es ++ List.replicate k (es.getD 0 .non) := rfl
  rw [e, List.foldl_append]
  generalize List.foldl (entStep (es.getD 0 .non)) [] es = us
  induction k with
  | zero => rfl
  | succ k ih =>
    rw [List.replicate_succ, List.foldl_cons]
    have e2 : entStep (es.getD 0 .non) us (es.getD 0 .non) = us := by unfold entStep; rw [if_pos rfl]
    rw [e2]
    exact ih rfl
theorem longer_rows {es : List V} {x : V} (k : Nat) (hx : x ≠ es.getD 0 .non) : rowsTo (longer k es) x (longer k es).length = rowsTo es x es.length := by
  have el : (longer k es).length = es.length + k := by unfold longer; rw [List.length_append, List.length_replicate]
  have go : ∀ j, j ≤ k → rowsTo (longer k es) x (es.length + j) = rowsTo es x es.length := by
    intro j
    induction j with
    | zero =>
      intro _
      unfold rowsTo
      refine List.filter_congr fun r hr => ?_
      have hr := List.mem_range.mp hr
      have e : (longer k es).getD r .non = es.getD r .non := by
        unfold longer
        rw [List.getD_eq_getElem?_getD, List.getElem?_append_left (by omega), ← List.getD_eq_getElem?_getD]
      rw [e]
    | succ j ih =>
      intro hj
      have e : (longer k es).getD (es.length + j) .non = es.getD 0 .non := by
        unfold longer
        rw [List.getD_eq_getElem?_getD, List.getElem?_append_right (by omega), List.getElem?_replicate, if_pos (by omega)]
        rfl
      rw [show es.length + (j + 1) = es.length + j + 1 from rfl, rowsTo_step, e, if_neg (fun z => hx z.symm), List.append_nil]
      exact ih (by omega)
  rw [el]
  exact go k (Nat.le_refl _)
theorem longer_rdgs {es : List V} (h : 1 ≤ es.length) (k : Nat) : rdgsOf (longer k es) = rdgsOf es := by
  unfold rdgsOf
  rw [longer_ents h]
  refine List.map_congr_left fun x hx => ?_
  rw [longer_rows k (entTo_mem _ hx).2]
def longC (m : Nat) (cs : List (Addr × List V)) : List (Addr × List V) := cs.map fun x => (x.1, longer (30 - m) x.2)
theorem longC_notes {cs : List (Addr × List V)} {m : Nat} (h : ∀ x ∈ cs, 1 ≤ x.2.length) (n : Nat) (hn : n ≤ cs.length) : notesTo (pureC (longC m cs)) n = notesTo (pureC cs) n := by
  unfold notesTo
  congr 1
  refine List.map_congr_left fun i hi => ?_
  have hi := List.mem_range.mp hi
  have h1 : i < cs.length := by omega
  have h2 : i < (longC m cs).length := by unfold longC; rw [List.length_map]; exact h1
  rw [pureC_at h1, pureC_at h2]
  have e : (longC m cs)[i].2 = longer (30 - m) cs[i].2 := by
    have e1 : (longC m cs)[i]? = some (cs[i].1, longer (30 - m) cs[i].2) := by
      unfold longC
      rw [List.getElem?_map, List.getElem?_eq_getElem h1]
      rfl
    rw [List.getElem?_eq_getElem h2] at e1
    rw [Option.some.inj e1]
  rw [e, longer_rdgs (h _ (List.getElem_mem h1))]
theorem noteS_told {x y : Note} (e : toldN x = toldN y) : noteS x = noteS y := by
  have e1 : x.1 = y.1 := congrArg (fun z : Nat × List Rdg => z.1) e
  have e2 : (x.2.map fun z => z.2) = y.2.map fun z => z.2 := congrArg (fun z : Nat × List Rdg => z.2) e
  have h : ∀ z : Note, noteS z = numS ((z.1 : Nat) : Int) ++ Str.ofString ": " ++ Str.join (Str.ofString "; ") ((z.2.map fun y => y.2).map rdgS) := fun z => by
    unfold noteS
    rw [List.map_map]
    rfl
  rw [h, h, e1, e2]
theorem appS_told {es : List V} {ns ms : List (Addr × Note)} (e : (ns.map fun y => toldN y.2) = ms.map fun y => toldN y.2) : appS es ns = appS es ms := by
  unfold appS
  have : (ns.map fun y => noteS y.2) = ms.map fun y => noteS y.2 := by
    apply List.ext_getElem?
    intro i
    have e4 := congrArg (fun l => l[i]?) e
    rw [List.getElem?_map, List.getElem?_map] at e4
    rw [List.getElem?_map, List.getElem?_map]
    cases h1 : ns[i]? with
    | none =>
      rw [h1] at e4
      cases h2 : ms[i]? with
      | none => rfl
      | some b => rw [h2] at e4; cases e4
    | some a =>
      rw [h1] at e4
      cases h2 : ms[i]? with
      | none => rw [h2] at e4; cases e4
      | some b =>
        rw [h2] at e4
        show some (noteS a.2) = some (noteS b.2)
        rw [noteS_told (Option.some.inj e4)]
  rw [this]
/-- what a note says, told without the heap -/
def NoteOk (x : Note) : Prop := x.1 < 1200 ∧ x.2 ≠ [] ∧ x.2.length ≤ 30 ∧ ∀ y ∈ x.2, RdgOk y.2 ∧ y.2.2 ≠ []
theorem rows_some {es : List V} {x : V} : ∀ i, i ≤ es.length → x ∈ entTo es i → rowsTo es x i ≠ []
  | 0, _, h => by cases h
  | i + 1, hi, h => by
    have e := List.getElem?_eq_getElem (l := es) (i := i) (by omega)
    rw [entTo_step e] at h
    rw [rowsTo_step]
    rcases entStep_mem h with h | ⟨rfl, _⟩
    · intro z
      exact rows_some i (by omega) h (List.append_eq_nil_iff.mp z).1
    · have eg : es.getD i .non = es[i] := by rw [List.getD_eq_getElem?_getD, e]; rfl
      rw [if_pos eg]
      intro z
      exact absurd (List.append_eq_nil_iff.mp z).2 (fun z => nomatch z)
theorem notes_ok {H : Hp} {cs : List (Addr × List V)} {ns : List (Addr × Note)} (hN : ∀ y ∈ ns, NoteAt H y.1 y.2) (e : (ns.map fun y => toldN y.2) = notesTo (pureC cs) cs.length) (hcl : cs.length ≤ 1200) : ∀ y ∈ ns, NoteOk y.2 := fun y hy => by
  obtain ⟨n1, n2, n3, _⟩ := hN y hy
  have hm : toldN y.2 ∈ notesTo (pureC cs) cs.length := by rw [← e]; exact List.mem_map.mpr ⟨y, hy, rfl⟩
  obtain ⟨m1, m2, m3⟩ := notes_mem hm
  have m1 : y.2.1 < cs.length := m1
  have m2 : (y.2.2.map fun z => z.2) = rdgsOf ((pureC cs).getD y.2.1 []) := m2
  refine ⟨by omega, fun z => m3 (by show (y.2.2.map fun z => z.2) = []; rw [z]; rfl), n2, fun z hz => ⟨(n3 z hz).1, ?_⟩⟩
  have hz2 : z.2 ∈ rdgsOf ((pureC cs).getD y.2.1 []) := by rw [← m2]; exact List.mem_map.mpr ⟨z, hz, rfl⟩
  unfold rdgsOf at hz2
  obtain ⟨x, hx, ex⟩ := List.mem_map.mp hz2
  rw [← ex]
  exact rows_some _ (Nat.le_refl _) hx
theorem dash_not {z : Str} (h : Good z) : z ≠ Str.ofString "-" := fun e => by
  have h1 := h.al 45 (by rw [e]; decide +kernel)
  unfold Al at h1
  omega
/-! ### an apparatus read -/
def spER : Sp := fun vs H Q _ => ∃ v, vs = [.str (entS v)] ∧ Ent v ∧ Q v H
theorem scER : FnScope ["text"] ["text"] (defScope sER) := ⟨rfl, rfl, rfl, by decide +kernel, rfl, by decide +kernel, by decide +kernel⟩
theorem ok_er {f gI : Addr} {fd dI : FuncData} (F : Fun K "entry_read" "entry_read" sER f fd) (DI : Dfn K mg "is_word" sIsW gI dI ["text"]) (GI : FnOk P w K mg base CX0 2 gI dI ["text"] spIsW) {tn : Tok} (mN : mg "NO_ENTRY" = some (.str (Str.ofString "-") tn)) : FnOk P w K mg base CX0 3 f fd ["text"] spER := by
  refine Fun.okR F scER (fun vs H Q E h => ?_) (fun cdv A outer s H vs Q Q2 E hr h hq => ?_)
  · obtain ⟨v, rfl, _⟩ := h
    rfl
  · obtain ⟨v, rfl, hv, q⟩ := h
    refine ⟨_, pss_cons (ps_if (pt_cmpR op_eq (pv 0) (pe_glob (v := .str (Str.ofString "-")) (by rfl) mN ⟨_, rfl⟩) (nomark _)) (pss_one (ps_ret pe_non)) pss_nil)
      (pss_cons (ps_if (pt_not (pt_val (pe_call GI hr (by rfl) DI.at_ DI.fn.kp DI.bn .nil pass0 (pa_cons (pv 0) pa_nil)))) pss_never pss_nil)
      (pss_one (ps_ret (pv 0)))), ?_⟩
    have go : Q2 v H := hq _ _ (Rst.same (Same.refl H) q)
    refine ⟨_, rfl, rfl, _, rfl, ?_⟩
    rcases hv with rfl | ⟨z, hz, rfl⟩
    · exact iteY rfl go
    · refine iteK (fun e => dash_not hz (by injection e)) ?_
      refine ⟨_, rfl, z, rfl, few (by have := hz.hi; omega), _, rfl, ?_⟩
      rw [wordB_iff.mpr hz]
      exact iteF ⟨_, rfl, go⟩
def spESR : Sp := fun vs H Q _ => ∃ es : List V, vs = [.str (headS es)] ∧ (∀ e ∈ es, Ent e) ∧ es.length ≤ 1200 ∧ ∀ (H' : Hp) (p : Addr), Same H H' → H' p = some (.tup es) → Q (.ref p) H'
theorem scESR : FnScope ["line"] ["line"] (defScope sESR) := ⟨rfl, rfl, rfl, by decide +kernel, rfl, by decide +kernel, by decide +kernel⟩
theorem nd_part : (["part"] : List Str).Nodup := by decide +kernel
theorem ok_esr {f gE : Addr} {fd dE : FuncData} (F : Fun K "entries_read" "entries_read" sESR f fd) (DE : Dfn K mg "entry_read" sER gE dE ["text"]) (GE : FnOk P w K mg base CX0 3 gE dE ["text"] spER) (mtup : mg "tuple" = none) : FnOk P w K mg base CX0 4 f fd ["line"] spESR := by
  refine F.ok scESR (fun vs H Q E h => ?_) (fun cdv A outer s H vs Q E hr h => ?_)
  · obtain ⟨es, rfl, _⟩ := h
    rfl
  · obtain ⟨es, rfl, hE, hl, q⟩ := h
    refine ⟨_, pss_cons (ps_if (pt_cmpR op_eq (pv 0) pe_str (nomark _)) (pss_one (ps_ret (pe_tup pa_nil))) pss_nil)
      (pss_one (ps_ret (pe_callTy call_tuple_of (by rfl) mtup boot_tuple (pa_cons (pe_comp (Nc := ["part"]) (mp := [none]) rfl (CompOk.of (by rfl)) (pi_list (pe_bm PySem.F.plainAttrs_str PySem.F.slot_str_split PySem.F.type_str_split mt_splitB (pv 0) (pa_cons pe_str pa_nil))) (fun cl C s H fp => ⟨pg_name (i := 0) nd_part rfl (Or.inl rfl), pts_nil, (pe_call GE hr (by rfl) DE.at_ DE.fn.kp DE.bn .nil pass0 (pa_cons (pv 0) pa_nil))⟩)) pa_nil)))), ?_⟩
    refine ⟨_, rfl, rfl, _, rfl, ?_⟩
    have hh := head_len hE
    by_cases h0 : es = []
    · subst h0
      exact iteY rfl ⟨Nat.zero_le _, fun p hp => q _ p (same_upd hp) upd_same⟩
    · refine iteK (fun e => h0 ((head_nil hE).mp (by injection e))) ?_
      refine ⟨_, rfl, rfl, _, _, rfl, rfl, (by decide +kernel), by omega, fun p hp => ?_⟩
      rw [cut_head hE h0]
      have S1 := same_upd (o := .lst ((es.map entS).map V.str)) hp
      have h1 : upd H p (.lst ((es.map entS).map V.str)) p = some (.lst (es.map fun e => V.str (entS e))) := by rw [upd_same, List.map_map]; rfl
      generalize upd H p (.lst ((es.map entS).map V.str)) = H1 at S1 h1
      refine ⟨p, rfl, ⟨_, SqL.of h1⟩, comp_map (as := es) (v := fun e => V.str (entS e)) id (src_list (SqL.of h1)) (few (by omega)) (fun e he k hk => ⟨_, rfl, e, rfl, hE e he, hk⟩) (fun D hD => ?_)⟩
      rw [List.map_id]
      have S2 := same_upd (o := .lst es) hD
      refine ⟨D, _, rfl, .inl ⟨SqL.of upd_same, fun r hr => ?_⟩⟩
      exact q _ r ((S1.trans S2).trans (same_upd hr)) upd_same
def spNR : Sp := fun vs H Q _ => ∃ n : Nat, vs = [.str (numS ((n : Nat) : Int))] ∧ n < 1200 ∧ Q (natV n) H
theorem scNR : FnScope ["text", "number"] ["text"] (defScope sNR) := ⟨rfl, rfl, rfl, by decide +kernel, rfl, by decide +kernel, by decide +kernel⟩
theorem ok_nr {f gN : Addr} {fd dN : FuncData} (F : Fun K "number_read" "number_read" sNR f fd) (DN : Dfn K mg "number_of" sNum gN dN ["text", "most"]) (GN : FnOk P w K mg base CX0 3 gN dN ["text", "most"] spNum) {tm : Tok} (mM : mg "MOST_PRICE" = some (.int 1000000000000000000000000000000 tm)) : FnOk P w K mg base CX0 4 f fd ["text"] spNR := by
  refine Fun.okR F scNR (fun vs H Q E h => ?_) (fun cdv A outer s H vs Q Q2 E hr h hq => ?_)
  · obtain ⟨n, rfl, _⟩ := h
    rfl
  · obtain ⟨n, rfl, hn, q⟩ := h
    refine ⟨_, pss_cons (ps_set (i := 1) scNR.nd rfl (Or.inl rfl) (pe_call GN hr (by rfl) DN.at_ DN.fn.kp DN.bn .nil pass0 (pa_cons (pv 0) (pa_cons (pe_glob (v := .int 1000000000000000000000000000000) (by rfl) mM ⟨_, rfl⟩) pa_nil))))
      (pss_cons (ps_if (pt_cmpR op_isN (pv 1) pe_non (nomark _)) pss_never pss_nil)
      (pss_one (ps_ret (pv 1)))), ?_⟩
    have go : Q2 (natV n) H := hq _ _ (Rst.same (Same.refl H) q)
    have hl := numS_le (m := n) (k := 3) (by omega)
    refine ⟨_, rfl, _, _, rfl, by omega, by decide, by decide, ?_⟩
    rw [num1200 n hn]
    exact ⟨_, rfl, rfl, _, rfl, iteK (fun e => nomatch e) ⟨_, rfl, go⟩⟩
def spPR : Sp := fun vs H Q _ => ∃ z y a b : Str, vs = [.str z, .str y] ∧ Txt.split z y = [a, b] ∧ 1 ≤ y.length ∧ z.length ≤ 1000000 ∧ ∀ p, H p = none → Q (.ref p) (upd H p (.lst [.str a, .str b]))
theorem scPR : FnScope ["text", "between", "parts"] ["text", "between"] (defScope sPR) := ⟨rfl, rfl, rfl, by decide +kernel, rfl, by decide +kernel, by decide +kernel⟩
theorem ok_pr {f : Addr} {fd : FuncData} (F : Fun K "parts_read" "parts_read" sPR f fd) (mlen : mg "len" = none) : FnOk P w K mg base CX0 1 f fd ["text", "between"] spPR := by
  refine F.ok scPR (fun vs H Q E h => ?_) (fun cdv A outer s H vs Q E hr h => ?_)
  · obtain ⟨z, y, a, b, rfl, _⟩ := h
    rfl
  · obtain ⟨z, y, a, b, rfl, hs, hy, hz, q⟩ := h
    refine ⟨_, pss_cons (ps_set (i := 2) scPR.nd rfl (Or.inl rfl) (pe_bm PySem.F.plainAttrs_str PySem.F.slot_str_split PySem.F.type_str_split mt_splitB (pv 0) (pa_cons (pv 1) pa_nil)))
      (pss_cons (ps_if (pt_cmpR op_ne (pe_callB call_len_seq (by rfl) mlen PySem.boot_len (pa_cons (pv 2) pa_nil)) pe_int (nomark _)) pss_never pss_nil)
      (pss_one (ps_ret (pv 2)))), ?_⟩
    refine ⟨_, rfl, rfl, _, rfl, z, y, rfl, rfl, hy, by omega, fun p hp => ?_⟩
    rw [hs]
    refine ⟨_, rfl, p, _, rfl, .inl (SqL.of upd_same), rfl, _, rfl, iteNS rfl ⟨_, rfl, q p hp⟩⟩
def spRR : Sp := fun vs H Q _ => ∃ x : Rdg, vs = [.str (rdgS x)] ∧ RdgOk x ∧ x.2 ≠ [] ∧ ∀ (H' : Hp) (t : Addr), Same H H' → RdgAt H' t x → Q (.ref t) H'
theorem scRR : FnScope ["text", "parts"] ["text"] (defScope sRR) := ⟨rfl, rfl, rfl, by decide +kernel, rfl, by decide +kernel, by decide +kernel⟩
theorem ok_rr {f gP gE gN : Addr} {fd dP dE dN : FuncData} (F : Fun K "reading_read" "reading_read" sRR f fd) (DP : Dfn K mg "parts_read" sPR gP dP ["text", "between"]) (DE : Dfn K mg "entry_read" sER gE dE ["text"]) (DN : Dfn K mg "number_read" sNR gN dN ["text"]) (GP : FnOk P w K mg base CX0 4 gP dP ["text", "between"] spPR) (GE : FnOk P w K mg base CX0 4 gE dE ["text"] spER) (GN : FnOk P w K mg base CX0 4 gN dN ["text"] spNR) (mtup : mg "tuple" = none) : FnOk P w K mg base CX0 5 f fd ["text"] spRR := by
  refine F.ok scRR (fun vs H Q E h => ?_) (fun cdv A outer s H vs Q E hr h => ?_)
  · obtain ⟨x, rfl, _⟩ := h
    rfl
  · obtain ⟨x, rfl, ho, hne, q⟩ := h
    refine ⟨_, pss_cons (ps_set (i := 1) scRR.nd rfl (Or.inl rfl) (pe_call GP hr (by rfl) DP.at_ DP.fn.kp DP.bn .nil pass0 (pa_cons (pv 0) (pa_cons pe_str pa_nil))))
      (pss_one (ps_ret (pe_tup (pa_cons (pe_call GE hr (by rfl) DE.at_ DE.fn.kp DE.bn .nil pass0 (pa_cons (pe_ix ix_list (pv 1) pe_int (fun _ _ => rfl)) pa_nil)) (pa_cons (pe_callTy call_tuple_of (by rfl) mtup boot_tuple (pa_cons (pe_comp (Nc := ["row"]) (mp := [none]) rfl (CompOk.of (by rfl)) (pi_list (pe_bm PySem.F.plainAttrs_str PySem.F.slot_str_split PySem.F.type_str_split mt_splitB (pe_ix ix_list (pv 1) pe_int (fun _ _ => rfl)) (pa_cons pe_str pa_nil))) (fun cl C s H fp => ⟨pg_name (i := 0) nd_row rfl (Or.inl rfl), pts_nil, (pe_call GN hr (by rfl) DN.at_ DN.fn.kp DN.bn .nil pass0 (pa_cons (pv 0) pa_nil))⟩)) pa_nil)) pa_nil))))), ?_⟩
    have hl := rdg_len ho
    have hrl := rows_len ho
    refine ⟨_, rfl, _, _, _, _, rfl, cut_rdg ho, (by decide +kernel), by omega, fun p hp => ?_⟩
    have S1 := same_upd (o := .lst [V.str (entS x.1), .str (Str.join (Str.ofString ",") (x.2.map fun n => numS ((n : Nat) : Int)))]) hp
    have h1 : upd H p (.lst [V.str (entS x.1), .str (Str.join (Str.ofString ",") (x.2.map fun n => numS ((n : Nat) : Int)))]) p = some (.lst [V.str (entS x.1), .str (Str.join (Str.ofString ",") (x.2.map fun n => numS ((n : Nat) : Int)))]) := upd_same
    generalize upd H p (.lst [V.str (entS x.1), .str (Str.join (Str.ofString ",") (x.2.map fun n => numS ((n : Nat) : Int)))]) = H1 at S1 h1
    refine ⟨_, rfl, p, _, _, _, rfl, rfl, SqL.of h1, rfl, x.1, rfl, ho.1, _, rfl, p, _, _, _, rfl, rfl, SqL.of h1, rfl, rfl, _, _, rfl, rfl, (by decide +kernel), by omega, fun p2 hp2 => ?_⟩
    rw [cut_rows hne]
    have S2 := same_upd (o := .lst ((x.2.map fun n => numS ((n : Nat) : Int)).map V.str)) hp2
    have h2 : upd H1 p2 (.lst ((x.2.map fun n => numS ((n : Nat) : Int)).map V.str)) p2 = some (.lst (x.2.map fun n => V.str (numS ((n : Nat) : Int)))) := by rw [upd_same, List.map_map]; rfl
    have S12 := S1.trans S2
    generalize upd H1 p2 (.lst ((x.2.map fun n => numS ((n : Nat) : Int)).map V.str)) = H2 at S12 h2
    have h30 := ho.2.1
    refine ⟨p2, rfl, ⟨_, SqL.of h2⟩, comp_map (as := x.2) (v := fun n => V.str (numS ((n : Nat) : Int))) natV (src_list (SqL.of h2)) (few (by omega)) (fun n hn k hk => ⟨_, rfl, n, rfl, by have := ho.2.2 n hn; omega, hk⟩) (fun D hD => ?_)⟩
    have S3 := same_upd (o := .lst (x.2.map natV)) hD
    refine ⟨D, _, rfl, .inl ⟨SqL.of upd_same, fun r hr => ?_⟩⟩
    have S4 := same_upd (o := .tup (x.2.map natV)) hr
    refine ⟨few (by show 2 ≤ _; omega), fun t ht => ?_⟩
    have S5 := same_upd (o := .tup [x.1, .ref r]) ht
    exact q _ t (((S12.trans S3).trans S4).trans S5) ⟨ho, r, upd_same, S5 _ _ upd_same⟩
def spNTR : Sp := fun vs H Q _ => ∃ x : Note, vs = [.str (noteS x)] ∧ NoteOk x ∧ ∀ (H' : Hp) (t : Addr) (x' : Note), Same H H' → NoteAt H' t x' → toldN x' = toldN x → Q (.ref t) H'
theorem scNTR : FnScope ["line", "parts"] ["line"] (defScope sNTR) := ⟨rfl, rfl, rfl, by decide +kernel, rfl, by decide +kernel, by decide +kernel⟩
theorem nd_reading : (["reading"] : List Str).Nodup := by decide +kernel
theorem noteOk_len {x : Note} (h : NoteOk x) : (noteS x).length ≤ 3500 := by
  have h1 := rdgs_len (xs := x.2) (fun y hy => (h.2.2.2 y hy).1) h.2.2.1
  have h2 : (Str.ofString ": ").length = 2 := by decide +kernel
  have h3 := numS_le (m := x.1) (k := 3) (by have := h.1; omega)
  unfold noteS
  rw [app_len, app_len, h2]
  omega
theorem ok_ntr {f gP gR gN : Addr} {fd dP dR dN : FuncData} (F : Fun K "note_read" "note_read" sNTR f fd) (DP : Dfn K mg "parts_read" sPR gP dP ["text", "between"]) (DR : Dfn K mg "reading_read" sRR gR dR ["text"]) (DN : Dfn K mg "number_read" sNR gN dN ["text"]) (GP : FnOk P w K mg base CX0 5 gP dP ["text", "between"] spPR) (GR : FnOk P w K mg base CX0 5 gR dR ["text"] spRR) (GN : FnOk P w K mg base CX0 5 gN dN ["text"] spNR) (mtup : mg "tuple" = none) : FnOk P w K mg base CX0 6 f fd ["line"] spNTR := by
  refine F.ok scNTR (fun vs H Q E h => ?_) (fun cdv A outer s H vs Q E hr h => ?_)
  · obtain ⟨x, rfl, _⟩ := h
    rfl
  · obtain ⟨x, rfl, ho, q⟩ := h
    obtain ⟨o1, o2, o3, o4⟩ := ho
    have hok : ∀ y ∈ x.2, RdgOk y.2 := fun y hy => (o4 y hy).1
    have hl := noteOk_len ⟨o1, o2, o3, o4⟩
    have hrl := rdgs_len hok o3
    refine ⟨_, pss_cons (ps_set (i := 1) scNTR.nd rfl (Or.inl rfl) (pe_call GP hr (by rfl) DP.at_ DP.fn.kp DP.bn .nil pass0 (pa_cons (pv 0) (pa_cons pe_str pa_nil))))
      (pss_one (ps_ret (pe_tup (pa_cons (pe_call GN hr (by rfl) DN.at_ DN.fn.kp DN.bn .nil pass0 (pa_cons (pe_ix ix_list (pv 1) pe_int (fun _ _ => rfl)) pa_nil)) (pa_cons (pe_callTy call_tuple_of (by rfl) mtup boot_tuple (pa_cons (pe_comp (Nc := ["reading"]) (mp := [none]) rfl (CompOk.of (by rfl)) (pi_list (pe_bm PySem.F.plainAttrs_str PySem.F.slot_str_split PySem.F.type_str_split mt_splitB (pe_ix ix_list (pv 1) pe_int (fun _ _ => rfl)) (pa_cons pe_str pa_nil))) (fun cl C s H fp => ⟨pg_name (i := 0) nd_reading rfl (Or.inl rfl), pts_nil, (pe_call GR hr (by rfl) DR.at_ DR.fn.kp DR.bn .nil pass0 (pa_cons (pv 0) pa_nil))⟩)) pa_nil)) pa_nil))))), ?_⟩
    refine ⟨_, rfl, _, _, _, _, rfl, cut_note hok, (by decide +kernel), by omega, fun p hp => ?_⟩
    have S1 := same_upd (o := .lst [V.str (numS ((x.1 : Nat) : Int)), .str (Str.join (Str.ofString "; ") (x.2.map fun y => rdgS y.2))]) hp
    have h1 : upd H p (.lst [V.str (numS ((x.1 : Nat) : Int)), .str (Str.join (Str.ofString "; ") (x.2.map fun y => rdgS y.2))]) p = some (.lst [V.str (numS ((x.1 : Nat) : Int)), .str (Str.join (Str.ofString "; ") (x.2.map fun y => rdgS y.2))]) := upd_same
    generalize upd H p (.lst [V.str (numS ((x.1 : Nat) : Int)), .str (Str.join (Str.ofString "; ") (x.2.map fun y => rdgS y.2))]) = H1 at S1 h1
    refine ⟨_, rfl, p, _, _, _, rfl, rfl, SqL.of h1, rfl, x.1, rfl, o1, _, rfl, p, _, _, _, rfl, rfl, SqL.of h1, rfl, rfl, _, _, rfl, rfl, (by decide +kernel), by omega, fun p2 hp2 => ?_⟩
    rw [cut_rdgs hok o2]
    have S2 := same_upd (o := .lst ((x.2.map fun y => rdgS y.2).map V.str)) hp2
    have h2 : upd H1 p2 (.lst ((x.2.map fun y => rdgS y.2).map V.str)) p2 = some (.lst (x.2.map fun y => V.str (rdgS y.2))) := by rw [upd_same, List.map_map]; rfl
    have S12 := S1.trans S2
    generalize upd H1 p2 (.lst ((x.2.map fun y => rdgS y.2).map V.str)) = H2 at S12 h2
    refine ⟨p2, rfl, ⟨_, SqL.of h2⟩, comp_grow (as := x.2) (v := fun y => V.str (rdgS y.2)) (fun i acc H' => ∃ ys : List (Addr × Rdg), acc = ys.map (fun y => V.ref y.1) ∧ ys.length = i ∧ Same H2 H' ∧ (ys.map fun y => y.2) = (x.2.take i).map (fun y => y.2) ∧ ∀ y ∈ ys, RdgAt H' y.1 y.2)
      (fun i acc H' _ ⟨_, _, _, S, _⟩ => src_list (SqL.of (S _ _ h2))) (few (by omega)) ⟨[], rfl, rfl, Same.refl _, rfl, (fun _ z => nomatch z)⟩ (fun i acc H' ⟨ys, e, hl, _⟩ => by rw [e, List.length_map, hl]) ?_ ?_⟩
    · rintro i y acc H' hy ⟨ys, rfl, hyl, S, e, hY⟩ k hk
      have hym := List.mem_of_getElem? hy
      refine ⟨_, rfl, y.2, rfl, hok y hym, (o4 y hym).2, fun H3 t S3 h3 => ?_⟩
      refine hk _ _ ⟨ys ++ [(t, y.2)], by rw [List.map_append]; rfl, by rw [List.length_append, hyl]; rfl, S.trans S3, ?_, fun u hu => ?_⟩
      · rw [List.map_append, e, take_snoc hy, List.map_append]
        rfl
      · rcases List.mem_append.mp hu with hu | hu
        · exact (hY u hu).mono S3
        · rw [List.mem_singleton.mp hu]
          exact h3
    · rintro acc H3 ⟨ys, rfl, hyl, S3, e, hY⟩ D hD
      rw [List.take_length] at e
      have S4 := same_upd (o := .lst (ys.map fun y => V.ref y.1)) hD
      refine ⟨D, _, rfl, .inl ⟨SqL.of upd_same, fun r hr => ?_⟩⟩
      have S5 := same_upd (o := .tup (ys.map fun y => V.ref y.1)) hr
      refine ⟨few (by show 2 ≤ _; omega), fun t ht => ?_⟩
      have S6 := same_upd (o := .tup [natV x.1, .ref r]) ht
      have S46 := (S4.trans S5).trans S6
      refine q _ t (x.1, ys) ((S12.trans S3).trans S46) ⟨by omega, (by show ys.length ≤ 30; omega), fun y hy => (hY y hy).mono S46, r, upd_same, S6 _ _ upd_same⟩ ?_
      show (x.1, ys.map fun z => z.2) = (x.1, x.2.map fun z => z.2)
      rw [e]
def spAR : Sp := fun vs H Q _ => ∃ (cs : List (Addr × List V)) (m : Nat) (ns : List (Addr × Note)), vs = [.str (appS (cs.map fun x => x.2.getD 0 .non) ns)] ∧ (∀ x ∈ cs, x.2.length = m ∧ ∀ e ∈ x.2, Ent e) ∧ 1 ≤ m ∧ m ≤ 30 ∧ cs.length ≤ 1200 ∧ (∀ y ∈ ns, NoteOk y.2) ∧ (ns.map fun y => toldN y.2) = notesTo (pureC cs) cs.length ∧
  ∀ (H' : Hp) (t p r : Addr) (ns' : List (Addr × Note)), Same H H' → H' t = some (.tup [.ref p, .ref r]) → H' p = some (.tup (cs.map fun x => x.2.getD 0 .non)) → H' r = some (.tup (ns'.map fun y => V.ref y.1)) → (∀ y ∈ ns', NoteAt H' y.1 y.2) → (ns'.map fun y => toldN y.2) = (ns.map fun y => toldN y.2) → Q (.ref t) H'
theorem scAR : FnScope ["text", "lines", "entries", "notes"] ["text"] (defScope sAR) := ⟨rfl, rfl, rfl, by decide +kernel, rfl, by decide +kernel, by decide +kernel⟩
theorem nd_line : (["line"] : List Str).Nodup := by decide +kernel
theorem appOk_len {es : List V} {ns : List (Addr × Note)} (hE : ∀ e ∈ es, Ent e) (hN : ∀ y ∈ ns, NoteOk y.2) (h1 : es.length ≤ 1200) (h2 : ns.length ≤ 1200) : (appS es ns).length ≤ 6000000 := by
  have hh := head_len hE
  have hj := join_len (Str.ofString "\n") (headS es :: ns.map fun y => noteS y.2)
  have h5 : (Str.ofString "\n").length = 1 := by decide +kernel
  have h6 := sum_le (ws := ns.map fun y => noteS y.2) (b := 3500) fun z hz => by
    obtain ⟨y, hy, rfl⟩ := List.mem_map.mp hz
    exact noteOk_len (hN y hy)
  rw [List.length_map] at h6
  rw [h5, List.map_cons, List.sum_cons, List.length_cons, List.length_map] at hj
  unfold appS
  omega
theorem ok_ar {f gE gN gB : Addr} {fd dE dN dB : FuncData} (F : Fun K "apparatus_read" "apparatus_read" sAR f fd) (DE : Dfn K mg "entries_read" sESR gE dE ["line"]) (DN : Dfn K mg "note_read" sNTR gN dN ["line"]) (DB : Dfn K mg "collation_back" sOB gB dB ["entries", "many", "notes"]) (GE : FnOk P w K mg base CX0 6 gE dE ["line"] spESR) (GN : FnOk P w K mg base CX0 6 gN dN ["line"] spNTR) (GB : FnOk P w K mg base CX0 6 gB dB ["entries", "many", "notes"] (spOB K)) (mtup : mg "tuple" = none) {tr : Tok} (mR : mg "MOST_ROWS" = some (.int 30 tr)) : FnOk P w K mg base CX0 7 f fd ["text"] spAR := by
  refine F.ok scAR (fun vs H Q E h => ?_) (fun cdv A outer s H vs Q E hr h => ?_)
  · obtain ⟨cs, m, ns, rfl, _⟩ := h
    rfl
  · obtain ⟨cs, m, ns, rfl, hC, m1, m30, hcl, hN, hto, q⟩ := h
    refine ⟨_, pss_cons (ps_set (i := 1) scAR.nd rfl (Or.inl rfl) (pe_bm PySem.F.plainAttrs_str PySem.F.slot_str_split PySem.F.type_str_split mt_splitB (pv 0) (pa_cons pe_str pa_nil)))
      (pss_cons (ps_set (i := 2) scAR.nd rfl (Or.inl rfl) (pe_call GE hr (by rfl) DE.at_ DE.fn.kp DE.bn .nil pass0 (pa_cons (pe_ix ix_list (pv 1) pe_int (fun _ _ => rfl)) pa_nil)))
      (pss_cons (ps_set (i := 3) scAR.nd rfl (Or.inl rfl) (pe_callTy call_tuple_of (by rfl) mtup boot_tuple (pa_cons (pe_comp (Nc := ["line"]) (mp := [none]) rfl (CompOk.of (by rfl)) (pi_list (pe_slice sl_lst (pv 1) (po_some pe_int) po_none)) (fun cl C s H fp => ⟨pg_name (i := 0) nd_line rfl (Or.inl rfl), pts_nil, (pe_call GN hr (by rfl) DN.at_ DN.fn.kp DN.bn .nil pass0 (pa_cons (pv 0) pa_nil))⟩)) pa_nil)))
      (pss_cons (ps_expr (pe_call GB hr (by rfl) DB.at_ DB.fn.kp DB.bn .nil pass0 (pa_cons (pv 2) (pa_cons (pe_glob (v := .int 30) (by rfl) mR ⟨_, rfl⟩) (pa_cons (pv 3) pa_nil)))))
      (pss_one (ps_ret (pe_tup (pa_cons (pv 2) (pa_cons (pv 3) pa_nil)))))))), ?_⟩
    have hE : ∀ e ∈ cs.map (fun x => x.2.getD 0 .non), Ent e := fun e he => by
      obtain ⟨x, hx, rfl⟩ := List.mem_map.mp he
      obtain ⟨k2, k3⟩ := hC x hx
      have h0 : 0 < x.2.length := by omega
      rw [List.getD_eq_getElem?_getD, List.getElem?_eq_getElem h0]
      exact k3 _ (List.getElem_mem h0)
    have hEl : (cs.map fun x => x.2.getD 0 V.non).length ≤ 1200 := by rw [List.length_map]; exact hcl
    have hnl : ns.length ≤ 1200 := by
      have e1 := congrArg List.length hto
      rw [List.length_map] at e1
      have e2 := notesTo_len (pureC cs) cs.length
      omega
    have eB : (cs.map fun x => x.2.getD 0 V.non) = (longC m cs).map fun x => x.2.getD 0 V.non := by
      unfold longC
      rw [List.map_map]
      refine List.map_congr_left fun x hx => ?_
      exact (longer_zero (by have := (hC x hx).1; omega) _).symm
    have hCL : ∀ x ∈ longC m cs, x.2.length = 30 ∧ ∀ e ∈ x.2, Ent e := fun x hx => by
      obtain ⟨y, hy, rfl⟩ := List.mem_map.mp hx
      obtain ⟨k2, k3⟩ := hC y hy
      have h0 : 0 < y.2.length := by omega
      refine ⟨?_, fun e he => ?_⟩
      · show (y.2 ++ List.replicate (30 - m) (y.2.getD 0 .non)).length = 30
        rw [List.length_append, List.length_replicate]
        omega
      · rcases List.mem_append.mp he with he | he
        · exact k3 e he
        · rw [List.eq_of_mem_replicate he, List.getD_eq_getElem?_getD, List.getElem?_eq_getElem h0]
          exact k3 _ (List.getElem_mem h0)
    have eL : (longC m cs).length = cs.length := by unfold longC; rw [List.length_map]
    have eT : notesTo (pureC (longC m cs)) (longC m cs).length = notesTo (pureC cs) cs.length := by
      rw [eL]
      exact longC_notes (fun x hx => by have := (hC x hx).1; omega) _ (Nat.le_refl _)
    generalize hes : (cs.map fun x => x.2.getD 0 V.non) = es at hE hEl eB q
    refine ⟨_, rfl, rfl, _, _, rfl, rfl, (by decide +kernel), (by have := appOk_len hE hN hEl hnl; omega), fun p hp => ?_⟩
    rw [cut_app hE fun y hy z hz => ((hN y hy).2.2.2 z hz).1]
    have S1 := same_upd (o := .lst ((headS es :: ns.map fun y => noteS y.2).map V.str)) hp
    have h1 : upd H p (.lst ((headS es :: ns.map fun y => noteS y.2).map V.str)) p = some (.lst (V.str (headS es) :: ns.map fun y => V.str (noteS y.2))) := by rw [upd_same, List.map_cons, List.map_map]; rfl
    generalize upd H p (.lst ((headS es :: ns.map fun y => noteS y.2).map V.str)) = H1 at S1 h1
    refine ⟨_, rfl, p, _, _, _, rfl, rfl, SqL.of h1, atI_nat (j := 0) rfl, es, rfl, hE, hEl, fun H2 pe S2 h2 => ?_⟩
    refine ⟨_, rfl, _, rfl, p, _, rfl, SqL.of (S2 _ _ h1), fun p3 hp3 => ?_⟩
    rw [cut_tail]
    have S3 := same_upd (o := .lst (ns.map fun y => V.str (noteS y.2))) hp3
    have h3 : upd H2 p3 (.lst (ns.map fun y => V.str (noteS y.2))) p3 = some (.lst (ns.map fun y => V.str (noteS y.2))) := upd_same
    have S13 := (S1.trans S2).trans S3
    have h2 := S3 _ _ h2
    generalize upd H2 p3 (.lst (ns.map fun y => V.str (noteS y.2))) = H3 at S13 h3 h2
    refine ⟨p3, rfl, ⟨_, SqL.of h3⟩, comp_grow (as := ns) (v := fun y => V.str (noteS y.2)) (fun i acc H' => ∃ ys : List (Addr × Note), acc = ys.map (fun y => V.ref y.1) ∧ ys.length = i ∧ Same H3 H' ∧ (ys.map fun y => toldN y.2) = (ns.take i).map (fun y => toldN y.2) ∧ ∀ y ∈ ys, NoteAt H' y.1 y.2)
      (fun i acc H' _ ⟨_, _, _, S, _⟩ => src_list (SqL.of (S _ _ h3))) (few (by omega)) ⟨[], rfl, rfl, Same.refl _, rfl, (fun _ z => nomatch z)⟩ (fun i acc H' ⟨ys, e, hl, _⟩ => by rw [e, List.length_map, hl]) ?_ ?_⟩
    · rintro i y acc H' hy ⟨ys, rfl, hyl, S, e, hY⟩ k hk
      have hym := List.mem_of_getElem? hy
      refine ⟨_, rfl, y.2, rfl, hN y hym, fun H4 t x' S4 h4 e4 => ?_⟩
      refine hk _ _ ⟨ys ++ [(t, x')], by rw [List.map_append]; rfl, by rw [List.length_append, hyl]; rfl, S.trans S4, ?_, fun u hu => ?_⟩
      · rw [List.map_append, e, take_snoc hy, List.map_append]
        show _ ++ [toldN x'] = _ ++ [toldN y.2]
        rw [e4]
      · rcases List.mem_append.mp hu with hu | hu
        · exact (hY u hu).mono S4
        · rw [List.mem_singleton.mp hu]
          exact h4
    · rintro acc H4 ⟨ys, rfl, hyl, S4, e, hY⟩ D hD
      rw [List.take_length] at e
      have T5 := same_upd (o := .lst (ys.map fun y => V.ref y.1)) hD
      refine ⟨D, _, rfl, .inl ⟨SqL.of upd_same, fun r hr => ?_⟩⟩
      have T6 := same_upd (o := .tup (ys.map fun y => V.ref y.1)) hr
      have h6 : upd (upd H4 D (.lst (ys.map fun y => V.ref y.1))) r (.tup (ys.map fun y => V.ref y.1)) r = some (.tup (ys.map fun y => V.ref y.1)) := upd_same
      have S46 := T5.trans T6
      generalize upd (upd H4 D (.lst (ys.map fun y => V.ref y.1))) r (.tup (ys.map fun y => V.ref y.1)) = H6 at S46 h6
      have S36 := S4.trans S46
      have hY6 : ∀ y ∈ ys, NoteAt H6 y.1 y.2 := fun y hy => (hY y hy).mono S46
      refine ⟨_, rfl, _, rfl, pe, r, longC m cs, 30, ys, rfl, (by rw [← eB]; exact S36 _ _ h2), hCL, by decide, by decide, by rw [eL]; exact hcl, h6, hY6, (by rw [eT, ← hto]; exact e), fun H7 r7 as7 S7 h7 hl7 hc7 => ?_⟩
      refine ⟨_, rfl, _, rfl, few (by show 2 ≤ _; omega), fun t ht => ?_⟩
      have S8 := same_upd (o := .tup [.ref pe, .ref r]) ht
      have S78 := S7.trans S8
      exact q _ t pe r ys ((S13.trans S36).trans S78) upd_same (S78 _ _ (S36 _ _ h2)) (S78 _ _ h6) (fun y hy => (hY6 y hy).mono S78) e
/-! ### the law's text -/
def spLW (K : PySem.W.Frag) : Sp := fun vs H Q _ => ∃ (p r : Addr) (es : List V) (ns : List (Addr × Note)), vs = [.ref p, .ref r] ∧ SqT K H p es ∧ (∀ e ∈ es, Ent e) ∧ SqT K H r (ns.map fun y => V.ref y.1) ∧ (∀ y ∈ ns, NoteAt H y.1 y.2) ∧ es.length ≤ 1200 ∧ ns.length ≤ 1200 ∧ Q (.str (appS es ns)) H
theorem scLW : FnScope ["entries", "notes", "line", "number", "readings", "parts", "entry", "rows"] ["entries", "notes"] (defScope sLW) := ⟨rfl, rfl, rfl, by decide +kernel, rfl, by decide +kernel, by decide +kernel⟩
theorem ok_lw {f gE : Addr} {fd dE : FuncData} (F : Fun K "_law_written" "_law_written" sLW f fd) (DE : Dfn K mg "_law_entry" sLE gE dE ["entry"]) (mstr : mg "str" = none) : FnOk P w K mg base CX0 2 f fd ["entries", "notes"] (spLW K) := by
  have GE : FnOk P w K mg base CX0 1 gE dE ["entry"] spLE := ok_le DE.fn
  refine Fun.okR F scLW (fun vs H Q E h => ?_) (fun cdv A outer s H vs Q Q2 E hr h hq => ?_)
  · obtain ⟨p, r, es, ns, rfl, _⟩ := h
    rfl
  · obtain ⟨p, r, es, ns, rfl, hp, hE, hr1, hN, hel, hnl, q⟩ := h
    refine ⟨_, pss_cons (ps_set (i := 2) scLW.nd rfl (Or.inl rfl) (pe_bm PySem.F.plainAttrs_str PySem.F.slot_str_join PySem.F.type_str_join mt_join pe_str (pa_cons (pe_comp (Nc := ["entry"]) (mp := [none]) rfl (CompOk.of (by rfl)) (pi_tup (pv 0)) (fun cl C s H fp => ⟨pg_name (i := 0) nd_entry rfl (Or.inl rfl), pts_nil, (pe_call GE hr (by rfl) DE.at_ DE.fn.kp DE.bn .nil pass0 (pa_cons (pv 0) pa_nil))⟩)) pa_nil)))
      (pss_cons (ps_for PassesOwn.never rfl (pi_tup (pv 1)) (pg_tup (n := 2) rfl (pgs_cons (pg_name (i := 3) scLW.nd rfl (Or.inl rfl)) (pgs_cons (pg_name (i := 4) scLW.nd rfl (Or.inl rfl)) pgs_nil)))
      (pss_cons (ps_set (i := 5) scLW.nd rfl (Or.inl rfl) (pe_lst pa_nil))
      (pss_cons (ps_for PassesOwn.never rfl (pi_tup (pv 4)) (pg_tup (n := 2) rfl (pgs_cons (pg_name (i := 6) scLW.nd rfl (Or.inl rfl)) (pgs_cons (pg_name (i := 7) scLW.nd rfl (Or.inl rfl)) pgs_nil)))
      (pss_one (ps_expr (pe_bm PySem.F.plainAttrs_list PySem.F.slot_list_append PySem.F.type_list_append mt_append (pv 5) (pa_cons (pe_op op_add_str (pe_op op_add_str (pe_call GE hr (by rfl) DE.at_ DE.fn.kp DE.bn .nil pass0 (pa_cons (pv 6) pa_nil)) pe_str) (pe_bm PySem.F.plainAttrs_str PySem.F.slot_str_join PySem.F.type_str_join mt_join pe_str (pa_cons (pe_comp (Nc := ["row"]) (mp := [none]) rfl (CompOk.of (by rfl)) (pi_tup (pv 7)) (fun cl C s H fp => ⟨pg_name (i := 0) nd_row rfl (Or.inl rfl), pts_nil, (pe_callTy call_str_any (by rfl) mstr boot_str (pa_cons (pv 0) pa_nil))⟩)) pa_nil))) pa_nil)))))
      (pss_one (ps_set (i := 2) scLW.nd rfl (Or.inl rfl) (pe_op op_add_str (pe_op op_add_str (pe_op op_add_str (pe_op op_add_str (pv 2) pe_str) (pe_callTy call_str_any (by rfl) mstr boot_str (pa_cons (pv 3) pa_nil))) pe_str) (pe_bm PySem.F.plainAttrs_str PySem.F.slot_str_join PySem.F.type_str_join mt_join pe_str (pa_cons (pv 5) pa_nil))))))))
      (pss_one (ps_ret (pv 2)))), ?_⟩
    refine ⟨rfl, _, rfl, p, rfl, ⟨_, hp⟩, comp_map (as := es) (v := id) (fun e => .str (entS e)) (by rw [List.map_id]; exact src_tup hp) (few (by omega)) (fun e he k hk => ⟨_, rfl, e, rfl, hE e he, hk⟩) (fun D hD => ?_)⟩
    have S1 := same_upd (o := .lst (es.map fun e => V.str (entS e))) hD
    have h2 : (Str.ofString " | ").length = 3 := by decide +kernel
    have h3 := sum_le (ws := es.map entS) (b := 12) fun z hz => by
      obtain ⟨e, he, rfl⟩ := List.mem_map.mp hz
      exact ent_len (hE e he)
    rw [List.length_map] at h3
    refine ⟨_, D, es.map entS, rfl, rfl, .inl (SqL.of (by rw [upd_same, List.map_map]; rfl)), by rw [h2, List.length_map]; omega, ?_⟩
    rw [tjoin, ← headS_eq]
    generalize upd H D (.lst (es.map fun e => V.str (entS e))) = H2 at S1
    have S2 := S1
    have hr2 := sameT S2 hr1
    have e0 : headS es = appS es (ns.take 0) := rfl
    refine ⟨_, rfl, r, rfl, ⟨_, hr2⟩, for_tup (K := K) (a := r) (xs := ns.map fun y => V.ref y.1) (fun i σ H3 => ∃ v4 v5 v6 v7 v8 : Option V, σ = [some (.ref p), some (.ref r), some (.str (appS es (ns.take i))), v4, v5, v6, v7, v8] ∧ Same H H3) ⟨none, none, none, none, none, by rw [← e0]; rfl, S2⟩ (fun i σ H3 _ ⟨_, _, _, _, _, _, S⟩ => sameT S hr1) ?_ ?_⟩
    · rintro i y σ H3 hi ⟨v4, v5, v6, v7, v8, rfl, S3⟩
      rw [List.getElem?_map] at hi
      obtain ⟨x, hx, rfl⟩ := Option.map_eq_some_iff.mp hi
      have hxm := List.mem_of_getElem? hx
      obtain ⟨n1, n2, n3, qa, n4, n5⟩ := (hN x hxm).mono S3
      refine ⟨x.1, _, rfl, SqT.of n4, rfl, _, _, rfl, _, _, rfl, rfl, ?_⟩
      refine ⟨Nat.zero_le _, fun l hl => ?_⟩
      have S4 := same_upd (o := .lst []) hl
      have hln := S3.free hl
      refine ⟨_, rfl, qa, rfl, ⟨_, SqT.of (S4 _ _ n5)⟩, for_tup (K := K) (a := qa) (xs := x.2.2.map fun y => V.ref y.1) (fun j σ H5 => ∃ v7 v8 : Option V, σ = [some (.ref p), some (.ref r), some (.str (appS es (ns.take i))), some (natV x.2.1), some (.ref qa), some (.ref l), v7, v8] ∧ Same H3 H5 ∧ H5 l = some (.lst ((x.2.2.take j).map fun y => V.str (rdgS y.2)))) ⟨v7, v8, rfl, S4, upd_same⟩ (fun j σ H5 _ ⟨_, _, _, S, _⟩ => SqT.of (S _ _ n5)) ?_ ?_⟩
      · rintro j y σ H5 hj ⟨v7, v8, rfl, S5, h5⟩
        rw [List.getElem?_map] at hj
        obtain ⟨z, hz, rfl⟩ := Option.map_eq_some_iff.mp hj
        have hzm := List.mem_of_getElem? hz
        have hj' := (List.getElem?_eq_some_iff.mp hz).1
        obtain ⟨ho, ra, k1, k2⟩ := (n3 z hzm).mono S5
        have l12 := ent_len ho.1
        have l1 : (Str.ofString " ").length = 1 := by decide +kernel
        have hrl := rows_len ho
        refine ⟨z.1, _, rfl, SqT.of k1, rfl, _, _, rfl, _, _, rfl, rfl, ?_⟩
        refine ⟨_, rfl, .inl ⟨rfl, _, SqL.of h5⟩, _, rfl, _, rfl, ho.1, _, _, rfl, rfl, few (by rw [l1]; omega), rfl, _, rfl, ra, rfl, ⟨_, SqT.of k2⟩, comp_map (as := z.2.2) (v := natV) (fun n => .str (numS ((n : Nat) : Int))) (src_tup (SqT.of k2)) (few (by have := ho.2.1; omega)) (fun n hn k hk => ?_) (fun D hD => ?_)⟩
        · have := ho.2.2 n hn
          exact ⟨_, rfl, .inl ⟨((n : Nat) : Int), rfl, log_ok (by omega) (by omega), hk⟩⟩
        · refine ⟨_, D, z.2.2.map fun n => numS ((n : Nat) : Int), rfl, rfl, .inl (SqL.of (by rw [upd_same, List.map_map]; rfl)), ?_, ?_⟩
          · have h2 : (Str.ofString ",").length = 1 := by decide +kernel
            have h3 := sum_le (ws := z.2.2.map fun n => numS ((n : Nat) : Int)) (b := 2) fun u hu => by
              obtain ⟨n, hn, rfl⟩ := List.mem_map.mp hu
              exact numS_le (k := 1) (by have := ho.2.2 n hn; omega)
            have h4 := ho.2.1
            rw [List.length_map] at h3
            rw [h2, List.length_map]
            omega
          · rw [tjoin]
            have S6 := same_upd (o := .lst (z.2.2.map fun n => V.str (numS ((n : Nat) : Int)))) hD
            have h6 := S6 _ _ h5
            refine ⟨_, _, rfl, rfl, few (by rw [app_len, l1]; omega), l, _, _, rfl, rfl, h6, fewer (by rw [List.length_map, List.length_take]; omega), _, _, rfl, same_to (S5.trans S6) hl, ?_⟩
            rw [upd_same, take_snoc hz, List.map_append]
            rfl
      · rintro σ H5 ⟨v7, v8, rfl, S5, h5⟩
        rw [List.length_map, List.take_length] at h5
        have hA := app_len' (es := es) (ns := ns.take i) hE (fun y hy => hN y (List.mem_of_mem_take hy)) hel (by rw [List.length_take]; omega)
        have l1 : (Str.ofString "\n").length = 1 := by decide +kernel
        have l2 : (Str.ofString ": ").length = 2 := by decide +kernel
        have l4 := numS_le (m := x.2.1) (k := 3) (by omega)
        have hrl := rdgs_len (xs := x.2.2) (fun y hy => (n3 y hy).1) n2
        refine ⟨_, rfl, _, _, rfl, rfl, few2 (by omega), _, rfl, .inl ⟨((x.2.1 : Nat) : Int), rfl, log_ok (by omega) (by omega), _, _, rfl, rfl, few2 (by rw [app_len]; show _ + (numS ((x.2.1 : Nat) : Int)).length ≤ _; omega), _, _, rfl, rfl, few2 (by rw [app_len, app_len]; show _ + (numS ((x.2.1 : Nat) : Int)).length + _ ≤ _; omega), rfl, _, rfl, _, l, x.2.2.map (fun y => rdgS y.2), rfl, rfl, .inl (SqL.of (by rw [h5, List.map_map]; rfl)), ?_, ?_⟩⟩
        · have h2 : (Str.ofString "; ").length = 2 := by decide +kernel
          have h3 := sum_le (ws := x.2.2.map fun y => rdgS y.2) (b := 113) fun z hz => by
            obtain ⟨y, hy, rfl⟩ := List.mem_map.mp hz
            exact rdg_len (n3 y hy).1
          rw [List.length_map] at h3
          rw [h2, List.length_map]
          omega
        · rw [tjoin]
          refine ⟨_, _, rfl, rfl, few2 (by rw [app_len, app_len, app_len]; show _ + (numS ((x.2.1 : Nat) : Int)).length + _ + _ ≤ _; omega), some (natV x.2.1), some (.ref qa), some (.ref l), v7, v8, ?_, S3.trans S5⟩
          rw [app_turn hx]
          unfold noteS
          simp only [app_assoc]
          rfl
    · rintro σ H3 ⟨v4, v5, v6, v7, v8, rfl, S3⟩
      rw [List.length_map, List.take_length]
      exact ⟨_, rfl, hq _ _ (Rst.same S3 q)⟩
/-! ### the law -/
def spLaw (K : PySem.W.Frag) : Sp := fun vs H Q _ => ∃ (a : Addr) (ns : List Int), vs = [.ref a] ∧ SqL K H a (ns.map V.int) ∧ ns.length ≤ 63 ∧ (∀ m ∈ ns, Builtin.Int.intBits m ≤ 1048576) ∧ ∀ H', Q (.bl true) H'
theorem scLaw : FnScope ["script", "columns", "notes", "entries", "line", "found"] ["script"] (defScope sLaw) := ⟨rfl, rfl, rfl, by decide +kernel, rfl, by decide +kernel, by decide +kernel⟩
theorem nd_column : (["column"] : List Str).Nodup := by decide +kernel
theorem ok_law {f gRf gCB gOB gHa gIW gWr gNu gEW gRW gNW gAW gER gESR gNR gPR gRR gNTR gAR gC gD gW gP gCl gS gRd gNt gLE gLW gSc : Addr} {fd dRf dCB dOB dHa dIW dWr dNu dEW dRW dNW dAW dER dESR dNR dPR dRR dNTR dAR dC dD dW dP dCl dS dRd dNt dLE dLW dSc : FuncData} (F : Fun K "law" "law" sLaw f fd)
    (DRf : Dfn K mg "readings_of" sRdf gRf dRf ["column"]) (DCB : Dfn K mg "column_back" sCB gCB dCB ["entry", "many", "readings"]) (DOB : Dfn K mg "collation_back" sOB gOB dOB ["entries", "many", "notes"])
    (DHa : Dfn K mg "has_only" sHas gHa dHa ["text", "signs"]) (DIW : Dfn K mg "is_word" sIsW gIW dIW ["text"]) (DWr : Dfn K mg "writes_number" sWr gWr dWr ["text"]) (DNu : Dfn K mg "number_of" sNum gNu dNu ["text", "most"])
    (DEW : Dfn K mg "entry_written" sEW gEW dEW ["entry"]) (DRW : Dfn K mg "reading_written" sRW gRW dRW ["entry", "rows"]) (DNW : Dfn K mg "note_written" sNW gNW dNW ["number", "readings"]) (DAW : Dfn K mg "apparatus_written" sAW gAW dAW ["entries", "notes"])
    (DER : Dfn K mg "entry_read" sER gER dER ["text"]) (DESR : Dfn K mg "entries_read" sESR gESR dESR ["line"]) (DNR : Dfn K mg "number_read" sNR gNR dNR ["text"]) (DPR : Dfn K mg "parts_read" sPR gPR dPR ["text", "between"]) (DRR : Dfn K mg "reading_read" sRR gRR dRR ["text"]) (DNTR : Dfn K mg "note_read" sNTR gNTR dNTR ["line"]) (DAR : Dfn K mg "apparatus_read" sAR gAR dAR ["text"])
    (DC : Dfn K mg "_law_cell_at" sCell gC dC ["script", "k"]) (DD : Dfn K mg "_law_draw" sDraw gD dD ["cell", "k", "many"]) (DW : Dfn K mg "_law_word_by" sWordBy gW dW ["cell", "k"]) (DP : Dfn K mg "_law_pool" sPool gP dP ["cell"]) (DCl : Dfn K mg "_law_column_by" sCol gCl dCl ["cell", "pool", "many"]) (DS : Dfn K mg "_law_same" sSame gS dS ["found", "due"])
    (DRd : Dfn K mg "_law_readings_of" sRd gRd dRd ["column"]) (DNt : Dfn K mg "_law_notes_of" sNts gNt dNt ["columns"]) (DLE : Dfn K mg "_law_entry" sLE gLE dLE ["entry"]) (DLW : Dfn K mg "_law_written" sLW gLW dLW ["entries", "notes"]) (DSc : Dfn K mg "_law_scene" sScene gSc dSc ["script"])
    (mlen : mg "len" = none) (mrange : mg "range" = none) (misi : mg "isinstance" = none) (mtup : mg "tuple" = none) (mstr : mg "str" = none) (mint : mg "int" = none) (mbool : mg "bool" = none) (mall : mg "all" = none) (menum : mg "enumerate" = none)
    {tn tl tg tm tp tr : Tok} (mN : mg "NO_ENTRY" = some (.str (Str.ofString "-") tn)) (mL : mg "LETTERS" = some (.str letters tl)) (mF : mg "FIGURES" = some (.str figures tg)) (mML : mg "MOST_LETTERS" = some (.int 12 tm)) (mMP : mg "MOST_PRICE" = some (.int 1000000000000000000000000000000 tp)) (mMR : mg "MOST_ROWS" = some (.int 30 tr)) (kk : Kinds K) :
    FnOk P w K mg base CX0 8 f fd ["script"] (spLaw K) := by
  have GS : FnOk P w K mg base CX0 7 gS dS ["found", "due"] (spSame 6) := ok_same DS.fn DS misi mtup mstr mint mbool mlen mrange mall kk 6
  have GNt : FnOk P w K mg base CX0 7 gNt dNt ["columns"] (spNts K) := (ok_nts DNt.fn DRd mlen mrange mtup).mono (by decide)
  have GSc : FnOk P w K mg base CX0 7 gSc dSc ["script"] (spScene K) := (ok_scene DSc.fn DC DD DW DP DCl mlen mrange mtup).mono (by decide)
  have GLW : FnOk P w K mg base CX0 7 gLW dLW ["entries", "notes"] (spLW K) := (ok_lw DLW.fn DLE mstr).mono (by decide)
  have GAW : FnOk P w K mg base CX0 7 gAW dAW ["entries", "notes"] (spAW K) := (ok_aw DAW.fn DEW DRW DNW mstr mN).mono (by decide)
  have GOB : FnOk P w K mg base CX0 6 gOB dOB ["entries", "many", "notes"] (spOB K) := (ok_ob DOB.fn DRf DCB mlen mtup menum).mono (by decide)
  have GER : FnOk P w K mg base CX0 3 gER dER ["text"] spER := ok_er DER.fn DIW (ok_isw DIW.fn DHa mall mlen mL mML) mN
  have GNR : FnOk P w K mg base CX0 4 gNR dNR ["text"] spNR := ok_nr DNR.fn DNu (ok_num DNu.fn DWr DHa mall mlen mstr mint mF) mMP
  have GPR : FnOk P w K mg base CX0 1 gPR dPR ["text", "between"] spPR := ok_pr DPR.fn mlen
  have GRR : FnOk P w K mg base CX0 5 gRR dRR ["text"] spRR := ok_rr DRR.fn DPR DER DNR (GPR.mono (by decide)) (GER.mono (by decide)) GNR mtup
  have GNTR : FnOk P w K mg base CX0 6 gNTR dNTR ["line"] spNTR := ok_ntr DNTR.fn DPR DRR DNR (GPR.mono (by decide)) GRR (GNR.mono (by decide)) mtup
  have GESR : FnOk P w K mg base CX0 6 gESR dESR ["line"] spESR := (ok_esr DESR.fn DER GER mtup).mono (by decide)
  have GAR : FnOk P w K mg base CX0 7 gAR dAR ["text"] spAR := ok_ar DAR.fn DESR DNTR DOB GESR GNTR GOB mtup mMR
  refine F.ok scLaw (fun vs H Q E h => ?_) (fun cdv A outer s H vs Q E hr h => ?_)
  · obtain ⟨a, ns, rfl, _⟩ := h
    rfl
  · obtain ⟨a, ns, rfl, hS, hn, hb, q⟩ := h
    refine ⟨_, pss_cons (ps_set (i := 1) scLaw.nd rfl (Or.inl rfl) (pe_ix ix_tup (pe_call GSc hr (by rfl) DSc.at_ DSc.fn.kp DSc.bn .nil pass0 (pa_cons (pv 0) pa_nil)) pe_int (fun _ _ => rfl)))
      (pss_cons (ps_set (i := 2) scLaw.nd rfl (Or.inl rfl) (pe_call GNt hr (by rfl) DNt.at_ DNt.fn.kp DNt.bn .nil pass0 (pa_cons (pv 1) pa_nil)))
      (pss_cons (ps_set (i := 3) scLaw.nd rfl (Or.inl rfl) (pe_callTy call_tuple_of (by rfl) mtup boot_tuple (pa_cons (pe_comp (Nc := ["column"]) (mp := [none]) rfl (CompOk.of (by rfl)) (pi_tup (pv 1)) (fun cl C s H fp => ⟨pg_name (i := 0) nd_column rfl (Or.inl rfl), pts_nil, (pe_ix (ix_tupK (K := K) rfl) (pv 0) pe_int (fun _ _ => rfl))⟩)) pa_nil)))
      (pss_cons (ps_set (i := 4) scLaw.nd rfl (Or.inl rfl) (pe_call GLW hr (by rfl) DLW.at_ DLW.fn.kp DLW.bn .nil pass0 (pa_cons (pv 3) (pa_cons (pv 2) pa_nil))))
      (pss_cons (ps_set (i := 5) scLaw.nd rfl (Or.inl rfl) (pe_call GAR hr (by rfl) DAR.at_ DAR.fn.kp DAR.bn .nil pass0 (pa_cons (pv 4) pa_nil)))
      (pss_cons (ps_if (pt_not (pt_val (pe_call GS hr (by rfl) DS.at_ DS.fn.kp DS.bn .nil pass0 (pa_cons (pv 5) (pa_cons (pe_tup (pa_cons (pv 3) (pa_cons (pv 2) pa_nil))) pa_nil))))) (pss_one (ps_ret pe_bl)) pss_nil)
      (pss_one (ps_ret (pe_cmpR op_eq (pe_call GAW hr (by rfl) DAW.at_ DAW.fn.kp DAW.bn .nil pass0 (pa_cons (pe_ix ix_tup (pv 5) pe_int (fun _ _ => rfl)) (pa_cons (pe_ix ix_tup (pv 5) pe_int (fun _ _ => rfl)) pa_nil))) (pv 4) (nomark _))))))))), ?_⟩
    refine ⟨_, rfl, a, ns, rfl, hS, hn, hb, fun H1 t1 p cs m S1 h1 hp hC m1 m30 hcl => ?_⟩
    refine ⟨t1, _, _, _, rfl, rfl, SqT.of h1, rfl, ?_⟩
    refine ⟨_, rfl, p, cs, m, rfl, SqT.of hp, hC, m1, m30, hcl, fun H2 r2 ns2 S2 h2 hN2 hto2 => ?_⟩
    have hp2 := S2 _ _ hp
    have hC2 := hC.mono S2
    have hnl : ns2.length ≤ 1200 := by
      have e1 := congrArg List.length hto2
      rw [List.length_map] at e1
      have e2 := notesTo_len (pureC cs) cs.length
      omega
    refine ⟨_, rfl, p, rfl, ⟨_, SqT.of hp2⟩, comp_map (as := cs) (v := fun x => V.ref x.1) (fun x => x.2.getD 0 .non) (src_tup (SqT.of hp2)) (few (by omega)) (fun x hx kc hk => ?_) (fun D hD => ?_)⟩
    · obtain ⟨c1, c2, c3⟩ := hC2 x hx
      exact ⟨_, rfl, x.1, _, _, _, rfl, rfl, SqT.of c1, atI_nat (j := 0) (by rw [List.getD_eq_getElem?_getD, List.getElem?_eq_getElem (by omega)]; rfl), hk⟩
    have hE : ∀ e ∈ cs.map (fun x => x.2.getD 0 .non), Ent e := fun e he => by
      obtain ⟨x, hx, rfl⟩ := List.mem_map.mp he
      obtain ⟨k1, k2, k3⟩ := hC2 x hx
      have h0 : 0 < x.2.length := by omega
      rw [List.getD_eq_getElem?_getD, List.getElem?_eq_getElem h0]
      exact k3 _ (List.getElem_mem h0)
    have hEl : (cs.map fun x => x.2.getD 0 V.non).length ≤ 1200 := by rw [List.length_map]; exact hcl
    have T4 := same_upd (o := .lst (cs.map fun x => x.2.getD 0 .non)) hD
    refine ⟨D, _, rfl, .inl ⟨SqL.of upd_same, fun r5 hr5 => ?_⟩⟩
    have T5 := same_upd (o := .tup (cs.map fun x => x.2.getD 0 .non)) hr5
    have h5 : upd (upd H2 D (.lst (cs.map fun x => x.2.getD 0 .non))) r5 (.tup (cs.map fun x => x.2.getD 0 .non)) r5 = some (.tup (cs.map fun x => x.2.getD 0 .non)) := upd_same
    have S25 := T4.trans T5
    generalize upd (upd H2 D (.lst (cs.map fun x => x.2.getD 0 .non))) r5 (.tup (cs.map fun x => x.2.getD 0 .non)) = H5 at S25 h5
    have h25 := S25 _ _ h2
    have hN5 : ∀ y ∈ ns2, NoteAt H5 y.1 y.2 := fun y hy => (hN2 y hy).mono S25
    refine ⟨_, rfl, _, rfl, r5, r2, _, ns2, rfl, SqT.of h5, hE, SqT.of h25, hN5, hEl, hnl, ?_⟩
    refine ⟨_, rfl, cs, m, ns2, rfl, fun x hx => ⟨(hC x hx).2.1, (hC x hx).2.2⟩, m1, m30, hcl, notes_ok hN5 hto2 hcl, hto2, fun H6 t6 p6 r6 ns6 S6 h6 hp6 hr6 hN6 hto6 => ?_⟩
    have hl6 : ns6.length = ns2.length := by have := congrArg List.length hto6; rw [List.length_map, List.length_map] at this; exact this
    refine ⟨_, rfl, _, rfl, _, rfl, few (by show 2 ≤ _; omega), fun t7 ht7 => ?_⟩
    have S7 := same_upd (o := .tup [.ref r5, .ref r2]) ht7
    have h7 : upd H6 t7 (.tup [.ref r5, .ref r2]) t7 = some (.tup [.ref r5, .ref r2]) := upd_same
    have S67 := S6.trans S7
    have h67 := S7 _ _ h6
    have hp7 := S7 _ _ hp6
    have hr7 := S7 _ _ hr6
    have hN7 : ∀ y ∈ ns6, NoteAt (upd H6 t7 (.tup [.ref r5, .ref r2])) y.1 y.2 := fun y hy => (hN6 y hy).mono S7
    generalize upd H6 t7 (.tup [.ref r5, .ref r2]) = H7 at h7 S67 h67 hp7 hr7 hN7
    refine ⟨_, _, rfl, ?_, _, rfl, iteF ?_⟩
    · refine sameV_seq h67 h7 rfl (by show 2 ≤ _; omega) fun i u v hu hv => ?_
      match i, hu, hv with
      | 0, hu, hv =>
        cases hu; cases hv
        refine .inl (.inl (.inl (.inl (sameV_seq hp7 (S67 _ _ h5) rfl (by omega) fun i u v hu hv => ?_))))
        rw [hu] at hv
        cases hv
        exact sameV_ent (hE _ (List.mem_of_getElem? hu))
      | 1, hu, hv =>
        cases hu; cases hv
        exact sameV_notes hr7 (S67 _ _ h25) hN7 (fun y hy => (hN5 y hy).mono S67) hto6 (by omega)
      | n + 2, hu, hv => simp at hu
    · refine ⟨_, rfl, t6, _, _, _, rfl, rfl, SqT.of h67, rfl, _, rfl, t6, _, _, _, rfl, rfl, SqT.of h67, rfl, p6, r6, _, ns6, rfl, SqT.of hp7, hE, SqT.of hr7, hN7, hEl, by omega, ?_⟩
      rw [appS_told hto6]
      refine ⟨_, rfl, rfl, ?_⟩
      rw [decide_eq_true rfl]
      exact q _
end
theorem all_mk {l : PySem.W.OpenLaw} {w : World} {K : PySem.W.Frag} {h : Heap} {mg : Str → Option Value} {fa fRdf fCB fOB fHas fIsW fWr fNum fEW fRW fNW fAW fER fESR fNR fPR fRR fNTR fAR fCell fDraw fWordBy fPool fCol fSame fRd fNts fLE fLW fScene fLaw : Addr} (X : K.In h) (G : h.Ns mainGlobals mg) (hfa : mg "law" = some (.ref fa))
    {odRdf anRdf odCB anCB odOB anOB odHas anHas odIsW anIsW odWr anWr odNum anNum odEW anEW odRW anRW odNW anNW odAW anAW odER anER odESR anESR odNR anNR odPR anPR odRR anRR odNTR anNTR odAR anAR odCell anCell odDraw anDraw odWordBy anWordBy odPool anPool odCol anCol odSame anSame odRd anRd odNts anNts odLE anLE odLW anLW odScene anScene odLaw anLaw : Option Addr} {slRdf slCB slOB slHas slIsW slWr slNum slEW slRW slNW slAW slER slESR slNR slPR slRR slNTR slAR slCell slDraw slWordBy slPool slCol slSame slRd slNts slLE slLW slScene slLaw : Array (Option Value)} {ocRdf kVRdf dcRdf pmRdf cdRdf ctRdf ocCB kVCB dcCB pmCB cdCB ctCB ocOB kVOB dcOB pmOB cdOB ctOB ocHas kVHas dcHas pmHas cdHas ctHas ocIsW kVIsW dcIsW pmIsW cdIsW ctIsW ocWr kVWr dcWr pmWr cdWr ctWr ocNum kVNum dcNum pmNum cdNum ctNum ocEW kVEW dcEW pmEW cdEW ctEW ocRW kVRW dcRW pmRW cdRW ctRW ocNW kVNW dcNW pmNW cdNW ctNW ocAW kVAW dcAW pmAW cdAW ctAW ocER kVER dcER pmER cdER ctER ocESR kVESR dcESR pmESR cdESR ctESR ocNR kVNR dcNR pmNR cdNR ctNR ocPR kVPR dcPR pmPR cdPR ctPR ocRR kVRR dcRR pmRR cdRR ctRR ocNTR kVNTR dcNTR pmNTR cdNTR ctNTR ocAR kVAR dcAR pmAR cdAR ctAR ocCell kVCell dcCell pmCell cdCell ctCell ocDraw kVDraw dcDraw pmDraw cdDraw ctDraw ocWordBy kVWordBy dcWordBy pmWordBy cdWordBy ctWordBy ocPool kVPool dcPool pmPool cdPool ctPool ocCol kVCol dcCol pmCol cdCol ctCol ocSame kVSame dcSame pmSame cdSame ctSame ocRd kVRd dcRd pmRd cdRd ctRd ocNts kVNts dcNts pmNts cdNts ctNts ocLE kVLE dcLE pmLE cdLE ctLE ocLW kVLW dcLW pmLW cdLW ctLW ocScene kVScene dcScene pmScene cdScene ctScene ocLaw kVLaw dcLaw pmLaw cdLaw ctLaw : Value} {tkNO_ENTRY tkLETTERS tkFIGURES tkMOST_LETTERS tkMOST_PRICE tkMOST_ROWS : Tok}
    (aRdf : PySem.W.nsIn K mainGlobals "readings_of" = some (some (.ref fRdf))) (lRdf : K.lookup fRdf = some ⟨ocRdf, odRdf, .func (PySem.W.fnOf "readings_of" "readings_of" (defArgs sRdf) (defBody sRdf) (defScope sRdf) .none kVRdf dcRdf pmRdf anRdf cdRdf ctRdf), slRdf⟩) (cRdf : PySem.W.codeIn K cdRdf "readings_of" = true) (kRdf : PySem.W.keepIn K (.ref fRdf) = true)
    (aCB : PySem.W.nsIn K mainGlobals "column_back" = some (some (.ref fCB))) (lCB : K.lookup fCB = some ⟨ocCB, odCB, .func (PySem.W.fnOf "column_back" "column_back" (defArgs sCB) (defBody sCB) (defScope sCB) .none kVCB dcCB pmCB anCB cdCB ctCB), slCB⟩) (cCB : PySem.W.codeIn K cdCB "column_back" = true) (kCB : PySem.W.keepIn K (.ref fCB) = true)
    (aOB : PySem.W.nsIn K mainGlobals "collation_back" = some (some (.ref fOB))) (lOB : K.lookup fOB = some ⟨ocOB, odOB, .func (PySem.W.fnOf "collation_back" "collation_back" (defArgs sOB) (defBody sOB) (defScope sOB) .none kVOB dcOB pmOB anOB cdOB ctOB), slOB⟩) (cOB : PySem.W.codeIn K cdOB "collation_back" = true) (kOB : PySem.W.keepIn K (.ref fOB) = true)
    (aHas : PySem.W.nsIn K mainGlobals "has_only" = some (some (.ref fHas))) (lHas : K.lookup fHas = some ⟨ocHas, odHas, .func (PySem.W.fnOf "has_only" "has_only" (defArgs sHas) (defBody sHas) (defScope sHas) .none kVHas dcHas pmHas anHas cdHas ctHas), slHas⟩) (cHas : PySem.W.codeIn K cdHas "has_only" = true) (kHas : PySem.W.keepIn K (.ref fHas) = true)
    (aIsW : PySem.W.nsIn K mainGlobals "is_word" = some (some (.ref fIsW))) (lIsW : K.lookup fIsW = some ⟨ocIsW, odIsW, .func (PySem.W.fnOf "is_word" "is_word" (defArgs sIsW) (defBody sIsW) (defScope sIsW) .none kVIsW dcIsW pmIsW anIsW cdIsW ctIsW), slIsW⟩) (cIsW : PySem.W.codeIn K cdIsW "is_word" = true) (kIsW : PySem.W.keepIn K (.ref fIsW) = true)
    (aWr : PySem.W.nsIn K mainGlobals "writes_number" = some (some (.ref fWr))) (lWr : K.lookup fWr = some ⟨ocWr, odWr, .func (PySem.W.fnOf "writes_number" "writes_number" (defArgs sWr) (defBody sWr) (defScope sWr) .none kVWr dcWr pmWr anWr cdWr ctWr), slWr⟩) (cWr : PySem.W.codeIn K cdWr "writes_number" = true) (kWr : PySem.W.keepIn K (.ref fWr) = true)
    (aNum : PySem.W.nsIn K mainGlobals "number_of" = some (some (.ref fNum))) (lNum : K.lookup fNum = some ⟨ocNum, odNum, .func (PySem.W.fnOf "number_of" "number_of" (defArgs sNum) (defBody sNum) (defScope sNum) .none kVNum dcNum pmNum anNum cdNum ctNum), slNum⟩) (cNum : PySem.W.codeIn K cdNum "number_of" = true) (kNum : PySem.W.keepIn K (.ref fNum) = true)
    (aEW : PySem.W.nsIn K mainGlobals "entry_written" = some (some (.ref fEW))) (lEW : K.lookup fEW = some ⟨ocEW, odEW, .func (PySem.W.fnOf "entry_written" "entry_written" (defArgs sEW) (defBody sEW) (defScope sEW) .none kVEW dcEW pmEW anEW cdEW ctEW), slEW⟩) (cEW : PySem.W.codeIn K cdEW "entry_written" = true) (kEW : PySem.W.keepIn K (.ref fEW) = true)
    (aRW : PySem.W.nsIn K mainGlobals "reading_written" = some (some (.ref fRW))) (lRW : K.lookup fRW = some ⟨ocRW, odRW, .func (PySem.W.fnOf "reading_written" "reading_written" (defArgs sRW) (defBody sRW) (defScope sRW) .none kVRW dcRW pmRW anRW cdRW ctRW), slRW⟩) (cRW : PySem.W.codeIn K cdRW "reading_written" = true) (kRW : PySem.W.keepIn K (.ref fRW) = true)
    (aNW : PySem.W.nsIn K mainGlobals "note_written" = some (some (.ref fNW))) (lNW : K.lookup fNW = some ⟨ocNW, odNW, .func (PySem.W.fnOf "note_written" "note_written" (defArgs sNW) (defBody sNW) (defScope sNW) .none kVNW dcNW pmNW anNW cdNW ctNW), slNW⟩) (cNW : PySem.W.codeIn K cdNW "note_written" = true) (kNW : PySem.W.keepIn K (.ref fNW) = true)
    (aAW : PySem.W.nsIn K mainGlobals "apparatus_written" = some (some (.ref fAW))) (lAW : K.lookup fAW = some ⟨ocAW, odAW, .func (PySem.W.fnOf "apparatus_written" "apparatus_written" (defArgs sAW) (defBody sAW) (defScope sAW) .none kVAW dcAW pmAW anAW cdAW ctAW), slAW⟩) (cAW : PySem.W.codeIn K cdAW "apparatus_written" = true) (kAW : PySem.W.keepIn K (.ref fAW) = true)
    (aER : PySem.W.nsIn K mainGlobals "entry_read" = some (some (.ref fER))) (lER : K.lookup fER = some ⟨ocER, odER, .func (PySem.W.fnOf "entry_read" "entry_read" (defArgs sER) (defBody sER) (defScope sER) .none kVER dcER pmER anER cdER ctER), slER⟩) (cER : PySem.W.codeIn K cdER "entry_read" = true) (kER : PySem.W.keepIn K (.ref fER) = true)
    (aESR : PySem.W.nsIn K mainGlobals "entries_read" = some (some (.ref fESR))) (lESR : K.lookup fESR = some ⟨ocESR, odESR, .func (PySem.W.fnOf "entries_read" "entries_read" (defArgs sESR) (defBody sESR) (defScope sESR) .none kVESR dcESR pmESR anESR cdESR ctESR), slESR⟩) (cESR : PySem.W.codeIn K cdESR "entries_read" = true) (kESR : PySem.W.keepIn K (.ref fESR) = true)
    (aNR : PySem.W.nsIn K mainGlobals "number_read" = some (some (.ref fNR))) (lNR : K.lookup fNR = some ⟨ocNR, odNR, .func (PySem.W.fnOf "number_read" "number_read" (defArgs sNR) (defBody sNR) (defScope sNR) .none kVNR dcNR pmNR anNR cdNR ctNR), slNR⟩) (cNR : PySem.W.codeIn K cdNR "number_read" = true) (kNR : PySem.W.keepIn K (.ref fNR) = true)
    (aPR : PySem.W.nsIn K mainGlobals "parts_read" = some (some (.ref fPR))) (lPR : K.lookup fPR = some ⟨ocPR, odPR, .func (PySem.W.fnOf "parts_read" "parts_read" (defArgs sPR) (defBody sPR) (defScope sPR) .none kVPR dcPR pmPR anPR cdPR ctPR), slPR⟩) (cPR : PySem.W.codeIn K cdPR "parts_read" = true) (kPR : PySem.W.keepIn K (.ref fPR) = true)
    (aRR : PySem.W.nsIn K mainGlobals "reading_read" = some (some (.ref fRR))) (lRR : K.lookup fRR = some ⟨ocRR, odRR, .func (PySem.W.fnOf "reading_read" "reading_read" (defArgs sRR) (defBody sRR) (defScope sRR) .none kVRR dcRR pmRR anRR cdRR ctRR), slRR⟩) (cRR : PySem.W.codeIn K cdRR "reading_read" = true) (kRR : PySem.W.keepIn K (.ref fRR) = true)
    (aNTR : PySem.W.nsIn K mainGlobals "note_read" = some (some (.ref fNTR))) (lNTR : K.lookup fNTR = some ⟨ocNTR, odNTR, .func (PySem.W.fnOf "note_read" "note_read" (defArgs sNTR) (defBody sNTR) (defScope sNTR) .none kVNTR dcNTR pmNTR anNTR cdNTR ctNTR), slNTR⟩) (cNTR : PySem.W.codeIn K cdNTR "note_read" = true) (kNTR : PySem.W.keepIn K (.ref fNTR) = true)
    (aAR : PySem.W.nsIn K mainGlobals "apparatus_read" = some (some (.ref fAR))) (lAR : K.lookup fAR = some ⟨ocAR, odAR, .func (PySem.W.fnOf "apparatus_read" "apparatus_read" (defArgs sAR) (defBody sAR) (defScope sAR) .none kVAR dcAR pmAR anAR cdAR ctAR), slAR⟩) (cAR : PySem.W.codeIn K cdAR "apparatus_read" = true) (kAR : PySem.W.keepIn K (.ref fAR) = true)
    (aCell : PySem.W.nsIn K mainGlobals "_law_cell_at" = some (some (.ref fCell))) (lCell : K.lookup fCell = some ⟨ocCell, odCell, .func (PySem.W.fnOf "_law_cell_at" "_law_cell_at" (defArgs sCell) (defBody sCell) (defScope sCell) .none kVCell dcCell pmCell anCell cdCell ctCell), slCell⟩) (cCell : PySem.W.codeIn K cdCell "_law_cell_at" = true) (kCell : PySem.W.keepIn K (.ref fCell) = true)
    (aDraw : PySem.W.nsIn K mainGlobals "_law_draw" = some (some (.ref fDraw))) (lDraw : K.lookup fDraw = some ⟨ocDraw, odDraw, .func (PySem.W.fnOf "_law_draw" "_law_draw" (defArgs sDraw) (defBody sDraw) (defScope sDraw) .none kVDraw dcDraw pmDraw anDraw cdDraw ctDraw), slDraw⟩) (cDraw : PySem.W.codeIn K cdDraw "_law_draw" = true) (kDraw : PySem.W.keepIn K (.ref fDraw) = true)
    (aWordBy : PySem.W.nsIn K mainGlobals "_law_word_by" = some (some (.ref fWordBy))) (lWordBy : K.lookup fWordBy = some ⟨ocWordBy, odWordBy, .func (PySem.W.fnOf "_law_word_by" "_law_word_by" (defArgs sWordBy) (defBody sWordBy) (defScope sWordBy) .none kVWordBy dcWordBy pmWordBy anWordBy cdWordBy ctWordBy), slWordBy⟩) (cWordBy : PySem.W.codeIn K cdWordBy "_law_word_by" = true) (kWordBy : PySem.W.keepIn K (.ref fWordBy) = true)
    (aPool : PySem.W.nsIn K mainGlobals "_law_pool" = some (some (.ref fPool))) (lPool : K.lookup fPool = some ⟨ocPool, odPool, .func (PySem.W.fnOf "_law_pool" "_law_pool" (defArgs sPool) (defBody sPool) (defScope sPool) .none kVPool dcPool pmPool anPool cdPool ctPool), slPool⟩) (cPool : PySem.W.codeIn K cdPool "_law_pool" = true) (kPool : PySem.W.keepIn K (.ref fPool) = true)
    (aCol : PySem.W.nsIn K mainGlobals "_law_column_by" = some (some (.ref fCol))) (lCol : K.lookup fCol = some ⟨ocCol, odCol, .func (PySem.W.fnOf "_law_column_by" "_law_column_by" (defArgs sCol) (defBody sCol) (defScope sCol) .none kVCol dcCol pmCol anCol cdCol ctCol), slCol⟩) (cCol : PySem.W.codeIn K cdCol "_law_column_by" = true) (kCol : PySem.W.keepIn K (.ref fCol) = true)
    (aSame : PySem.W.nsIn K mainGlobals "_law_same" = some (some (.ref fSame))) (lSame : K.lookup fSame = some ⟨ocSame, odSame, .func (PySem.W.fnOf "_law_same" "_law_same" (defArgs sSame) (defBody sSame) (defScope sSame) .none kVSame dcSame pmSame anSame cdSame ctSame), slSame⟩) (cSame : PySem.W.codeIn K cdSame "_law_same" = true) (kSame : PySem.W.keepIn K (.ref fSame) = true)
    (aRd : PySem.W.nsIn K mainGlobals "_law_readings_of" = some (some (.ref fRd))) (lRd : K.lookup fRd = some ⟨ocRd, odRd, .func (PySem.W.fnOf "_law_readings_of" "_law_readings_of" (defArgs sRd) (defBody sRd) (defScope sRd) .none kVRd dcRd pmRd anRd cdRd ctRd), slRd⟩) (cRd : PySem.W.codeIn K cdRd "_law_readings_of" = true) (kRd : PySem.W.keepIn K (.ref fRd) = true)
    (aNts : PySem.W.nsIn K mainGlobals "_law_notes_of" = some (some (.ref fNts))) (lNts : K.lookup fNts = some ⟨ocNts, odNts, .func (PySem.W.fnOf "_law_notes_of" "_law_notes_of" (defArgs sNts) (defBody sNts) (defScope sNts) .none kVNts dcNts pmNts anNts cdNts ctNts), slNts⟩) (cNts : PySem.W.codeIn K cdNts "_law_notes_of" = true) (kNts : PySem.W.keepIn K (.ref fNts) = true)
    (aLE : PySem.W.nsIn K mainGlobals "_law_entry" = some (some (.ref fLE))) (lLE : K.lookup fLE = some ⟨ocLE, odLE, .func (PySem.W.fnOf "_law_entry" "_law_entry" (defArgs sLE) (defBody sLE) (defScope sLE) .none kVLE dcLE pmLE anLE cdLE ctLE), slLE⟩) (cLE : PySem.W.codeIn K cdLE "_law_entry" = true) (kLE : PySem.W.keepIn K (.ref fLE) = true)
    (aLW : PySem.W.nsIn K mainGlobals "_law_written" = some (some (.ref fLW))) (lLW : K.lookup fLW = some ⟨ocLW, odLW, .func (PySem.W.fnOf "_law_written" "_law_written" (defArgs sLW) (defBody sLW) (defScope sLW) .none kVLW dcLW pmLW anLW cdLW ctLW), slLW⟩) (cLW : PySem.W.codeIn K cdLW "_law_written" = true) (kLW : PySem.W.keepIn K (.ref fLW) = true)
    (aScene : PySem.W.nsIn K mainGlobals "_law_scene" = some (some (.ref fScene))) (lScene : K.lookup fScene = some ⟨ocScene, odScene, .func (PySem.W.fnOf "_law_scene" "_law_scene" (defArgs sScene) (defBody sScene) (defScope sScene) .none kVScene dcScene pmScene anScene cdScene ctScene), slScene⟩) (cScene : PySem.W.codeIn K cdScene "_law_scene" = true) (kScene : PySem.W.keepIn K (.ref fScene) = true)
    (aLaw : PySem.W.nsIn K mainGlobals "law" = some (some (.ref fLaw))) (lLaw : K.lookup fLaw = some ⟨ocLaw, odLaw, .func (PySem.W.fnOf "law" "law" (defArgs sLaw) (defBody sLaw) (defScope sLaw) .none kVLaw dcLaw pmLaw anLaw cdLaw ctLaw), slLaw⟩) (cLaw : PySem.W.codeIn K cdLaw "law" = true) (kLaw : PySem.W.keepIn K (.ref fLaw) = true)
    (gNO_ENTRY : PySem.W.nsIn K mainGlobals "NO_ENTRY" = some (some (.str (Str.ofString "-") tkNO_ENTRY)))
    (gLETTERS : PySem.W.nsIn K mainGlobals "LETTERS" = some (some (.str (Str.ofString "abcdefghijklmnopqrstuvwxyz") tkLETTERS)))
    (gFIGURES : PySem.W.nsIn K mainGlobals "FIGURES" = some (some (.str (Str.ofString "0123456789") tkFIGURES)))
    (gMOST_LETTERS : PySem.W.nsIn K mainGlobals "MOST_LETTERS" = some (some (.int 12 tkMOST_LETTERS)))
    (gMOST_PRICE : PySem.W.nsIn K mainGlobals "MOST_PRICE" = some (some (.int 1000000000000000000000000000000 tkMOST_PRICE)))
    (gMOST_ROWS : PySem.W.nsIn K mainGlobals "MOST_ROWS" = some (some (.int 30 tkMOST_ROWS)))
    (blen : PySem.W.nsIn K mainGlobals "len" = some none)
    (brange : PySem.W.nsIn K mainGlobals "range" = some none)
    (bisinstance : PySem.W.nsIn K mainGlobals "isinstance" = some none)
    (btuple : PySem.W.nsIn K mainGlobals "tuple" = some none)
    (bstr : PySem.W.nsIn K mainGlobals "str" = some none)
    (bint : PySem.W.nsIn K mainGlobals "int" = some none)
    (bbool : PySem.W.nsIn K mainGlobals "bool" = some none)
    (ball : PySem.W.nsIn K mainGlobals "all" = some none)
    (benumerate : PySem.W.nsIn K mainGlobals "enumerate" = some none)
    (j1 : PySem.W.kitOne K (.type "str") (.type "tuple") = some false)
    (j2 : PySem.W.kitOne K (.type "int") (.type "tuple") = some false)
    (j3 : PySem.W.kitOne K (.type "int") (.type "str") = some false)
    (i6 : PySem.W.kitOne K (.type "int") (.type "bool") = some false)
    (j4 : PySem.W.kitOne K (.type "NoneType") (.type "tuple") = some false)
    : ∃ fd : FuncData, (∀ (s : Shared) (v : Value), BindsTo s fd ⟨[v], []⟩ [("script", v)]) ∧ ∀ base : Heap, K.In base → base.Ns mainGlobals mg → FnOk l.prog w K mg base CX0 8 fa fd ["script"] (spLaw K) := by
  have e := hfa.symm.trans (PySem.W.mg_of X G aLaw)
  cases e
  have FRdf := fun_mk (st := sRdf) lRdf cRdf kRdf
  have b_Rdf := FRdf.binds (ps := ["column"]) fun _ _ _ _ _ _ us hl => match us, hl with | [_], _ => rfl
  have DRdf : Dfn K mg "readings_of" sRdf fRdf _ ["column"] := ⟨FRdf, PySem.W.mg_of X G aRdf, b_Rdf⟩
  have FCB := fun_mk (st := sCB) lCB cCB kCB
  have b_CB := FCB.binds (ps := ["entry", "many", "readings"]) fun _ _ _ _ _ _ us hl => match us, hl with | [_, _, _], _ => rfl
  have DCB : Dfn K mg "column_back" sCB fCB _ ["entry", "many", "readings"] := ⟨FCB, PySem.W.mg_of X G aCB, b_CB⟩
  have FOB := fun_mk (st := sOB) lOB cOB kOB
  have b_OB := FOB.binds (ps := ["entries", "many", "notes"]) fun _ _ _ _ _ _ us hl => match us, hl with | [_, _, _], _ => rfl
  have DOB : Dfn K mg "collation_back" sOB fOB _ ["entries", "many", "notes"] := ⟨FOB, PySem.W.mg_of X G aOB, b_OB⟩
  have FHas := fun_mk (st := sHas) lHas cHas kHas
  have b_Has := FHas.binds (ps := ["text", "signs"]) fun _ _ _ _ _ _ us hl => match us, hl with | [_, _], _ => rfl
  have DHas : Dfn K mg "has_only" sHas fHas _ ["text", "signs"] := ⟨FHas, PySem.W.mg_of X G aHas, b_Has⟩
  have FIsW := fun_mk (st := sIsW) lIsW cIsW kIsW
  have b_IsW := FIsW.binds (ps := ["text"]) fun _ _ _ _ _ _ us hl => match us, hl with | [_], _ => rfl
  have DIsW : Dfn K mg "is_word" sIsW fIsW _ ["text"] := ⟨FIsW, PySem.W.mg_of X G aIsW, b_IsW⟩
  have FWr := fun_mk (st := sWr) lWr cWr kWr
  have b_Wr := FWr.binds (ps := ["text"]) fun _ _ _ _ _ _ us hl => match us, hl with | [_], _ => rfl
  have DWr : Dfn K mg "writes_number" sWr fWr _ ["text"] := ⟨FWr, PySem.W.mg_of X G aWr, b_Wr⟩
  have FNum := fun_mk (st := sNum) lNum cNum kNum
  have b_Num := FNum.binds (ps := ["text", "most"]) fun _ _ _ _ _ _ us hl => match us, hl with | [_, _], _ => rfl
  have DNum : Dfn K mg "number_of" sNum fNum _ ["text", "most"] := ⟨FNum, PySem.W.mg_of X G aNum, b_Num⟩
  have FEW := fun_mk (st := sEW) lEW cEW kEW
  have b_EW := FEW.binds (ps := ["entry"]) fun _ _ _ _ _ _ us hl => match us, hl with | [_], _ => rfl
  have DEW : Dfn K mg "entry_written" sEW fEW _ ["entry"] := ⟨FEW, PySem.W.mg_of X G aEW, b_EW⟩
  have FRW := fun_mk (st := sRW) lRW cRW kRW
  have b_RW := FRW.binds (ps := ["entry", "rows"]) fun _ _ _ _ _ _ us hl => match us, hl with | [_, _], _ => rfl
  have DRW : Dfn K mg "reading_written" sRW fRW _ ["entry", "rows"] := ⟨FRW, PySem.W.mg_of X G aRW, b_RW⟩
  have FNW := fun_mk (st := sNW) lNW cNW kNW
  have b_NW := FNW.binds (ps := ["number", "readings"]) fun _ _ _ _ _ _ us hl => match us, hl with | [_, _], _ => rfl
  have DNW : Dfn K mg "note_written" sNW fNW _ ["number", "readings"] := ⟨FNW, PySem.W.mg_of X G aNW, b_NW⟩
  have FAW := fun_mk (st := sAW) lAW cAW kAW
  have b_AW := FAW.binds (ps := ["entries", "notes"]) fun _ _ _ _ _ _ us hl => match us, hl with | [_, _], _ => rfl
  have DAW : Dfn K mg "apparatus_written" sAW fAW _ ["entries", "notes"] := ⟨FAW, PySem.W.mg_of X G aAW, b_AW⟩
  have FER := fun_mk (st := sER) lER cER kER
  have b_ER := FER.binds (ps := ["text"]) fun _ _ _ _ _ _ us hl => match us, hl with | [_], _ => rfl
  have DER : Dfn K mg "entry_read" sER fER _ ["text"] := ⟨FER, PySem.W.mg_of X G aER, b_ER⟩
  have FESR := fun_mk (st := sESR) lESR cESR kESR
  have b_ESR := FESR.binds (ps := ["line"]) fun _ _ _ _ _ _ us hl => match us, hl with | [_], _ => rfl
  have DESR : Dfn K mg "entries_read" sESR fESR _ ["line"] := ⟨FESR, PySem.W.mg_of X G aESR, b_ESR⟩
  have FNR := fun_mk (st := sNR) lNR cNR kNR
  have b_NR := FNR.binds (ps := ["text"]) fun _ _ _ _ _ _ us hl => match us, hl with | [_], _ => rfl
  have DNR : Dfn K mg "number_read" sNR fNR _ ["text"] := ⟨FNR, PySem.W.mg_of X G aNR, b_NR⟩
  have FPR := fun_mk (st := sPR) lPR cPR kPR
  have b_PR := FPR.binds (ps := ["text", "between"]) fun _ _ _ _ _ _ us hl => match us, hl with | [_, _], _ => rfl
  have DPR : Dfn K mg "parts_read" sPR fPR _ ["text", "between"] := ⟨FPR, PySem.W.mg_of X G aPR, b_PR⟩
  have FRR := fun_mk (st := sRR) lRR cRR kRR
  have b_RR := FRR.binds (ps := ["text"]) fun _ _ _ _ _ _ us hl => match us, hl with | [_], _ => rfl
  have DRR : Dfn K mg "reading_read" sRR fRR _ ["text"] := ⟨FRR, PySem.W.mg_of X G aRR, b_RR⟩
  have FNTR := fun_mk (st := sNTR) lNTR cNTR kNTR
  have b_NTR := FNTR.binds (ps := ["line"]) fun _ _ _ _ _ _ us hl => match us, hl with | [_], _ => rfl
  have DNTR : Dfn K mg "note_read" sNTR fNTR _ ["line"] := ⟨FNTR, PySem.W.mg_of X G aNTR, b_NTR⟩
  have FAR := fun_mk (st := sAR) lAR cAR kAR
  have b_AR := FAR.binds (ps := ["text"]) fun _ _ _ _ _ _ us hl => match us, hl with | [_], _ => rfl
  have DAR : Dfn K mg "apparatus_read" sAR fAR _ ["text"] := ⟨FAR, PySem.W.mg_of X G aAR, b_AR⟩
  have FCell := fun_mk (st := sCell) lCell cCell kCell
  have b_Cell := FCell.binds (ps := ["script", "k"]) fun _ _ _ _ _ _ us hl => match us, hl with | [_, _], _ => rfl
  have DCell : Dfn K mg "_law_cell_at" sCell fCell _ ["script", "k"] := ⟨FCell, PySem.W.mg_of X G aCell, b_Cell⟩
  have FDraw := fun_mk (st := sDraw) lDraw cDraw kDraw
  have b_Draw := FDraw.binds (ps := ["cell", "k", "many"]) fun _ _ _ _ _ _ us hl => match us, hl with | [_, _, _], _ => rfl
  have DDraw : Dfn K mg "_law_draw" sDraw fDraw _ ["cell", "k", "many"] := ⟨FDraw, PySem.W.mg_of X G aDraw, b_Draw⟩
  have FWordBy := fun_mk (st := sWordBy) lWordBy cWordBy kWordBy
  have b_WordBy := FWordBy.binds (ps := ["cell", "k"]) fun _ _ _ _ _ _ us hl => match us, hl with | [_, _], _ => rfl
  have DWordBy : Dfn K mg "_law_word_by" sWordBy fWordBy _ ["cell", "k"] := ⟨FWordBy, PySem.W.mg_of X G aWordBy, b_WordBy⟩
  have FPool := fun_mk (st := sPool) lPool cPool kPool
  have b_Pool := FPool.binds (ps := ["cell"]) fun _ _ _ _ _ _ us hl => match us, hl with | [_], _ => rfl
  have DPool : Dfn K mg "_law_pool" sPool fPool _ ["cell"] := ⟨FPool, PySem.W.mg_of X G aPool, b_Pool⟩
  have FCol := fun_mk (st := sCol) lCol cCol kCol
  have b_Col := FCol.binds (ps := ["cell", "pool", "many"]) fun _ _ _ _ _ _ us hl => match us, hl with | [_, _, _], _ => rfl
  have DCol : Dfn K mg "_law_column_by" sCol fCol _ ["cell", "pool", "many"] := ⟨FCol, PySem.W.mg_of X G aCol, b_Col⟩
  have FSame := fun_mk (st := sSame) lSame cSame kSame
  have b_Same := FSame.binds (ps := ["found", "due"]) fun _ _ _ _ _ _ us hl => match us, hl with | [_, _], _ => rfl
  have DSame : Dfn K mg "_law_same" sSame fSame _ ["found", "due"] := ⟨FSame, PySem.W.mg_of X G aSame, b_Same⟩
  have FRd := fun_mk (st := sRd) lRd cRd kRd
  have b_Rd := FRd.binds (ps := ["column"]) fun _ _ _ _ _ _ us hl => match us, hl with | [_], _ => rfl
  have DRd : Dfn K mg "_law_readings_of" sRd fRd _ ["column"] := ⟨FRd, PySem.W.mg_of X G aRd, b_Rd⟩
  have FNts := fun_mk (st := sNts) lNts cNts kNts
  have b_Nts := FNts.binds (ps := ["columns"]) fun _ _ _ _ _ _ us hl => match us, hl with | [_], _ => rfl
  have DNts : Dfn K mg "_law_notes_of" sNts fNts _ ["columns"] := ⟨FNts, PySem.W.mg_of X G aNts, b_Nts⟩
  have FLE := fun_mk (st := sLE) lLE cLE kLE
  have b_LE := FLE.binds (ps := ["entry"]) fun _ _ _ _ _ _ us hl => match us, hl with | [_], _ => rfl
  have DLE : Dfn K mg "_law_entry" sLE fLE _ ["entry"] := ⟨FLE, PySem.W.mg_of X G aLE, b_LE⟩
  have FLW := fun_mk (st := sLW) lLW cLW kLW
  have b_LW := FLW.binds (ps := ["entries", "notes"]) fun _ _ _ _ _ _ us hl => match us, hl with | [_, _], _ => rfl
  have DLW : Dfn K mg "_law_written" sLW fLW _ ["entries", "notes"] := ⟨FLW, PySem.W.mg_of X G aLW, b_LW⟩
  have FScene := fun_mk (st := sScene) lScene cScene kScene
  have b_Scene := FScene.binds (ps := ["script"]) fun _ _ _ _ _ _ us hl => match us, hl with | [_], _ => rfl
  have DScene : Dfn K mg "_law_scene" sScene fScene _ ["script"] := ⟨FScene, PySem.W.mg_of X G aScene, b_Scene⟩
  have FLaw := fun_mk (st := sLaw) lLaw cLaw kLaw
  have mNO_ENTRY := PySem.W.mg_of X G gNO_ENTRY
  have mLETTERS := PySem.W.mg_of X G gLETTERS
  have mFIGURES := PySem.W.mg_of X G gFIGURES
  have mMOST_LETTERS := PySem.W.mg_of X G gMOST_LETTERS
  have mMOST_PRICE := PySem.W.mg_of X G gMOST_PRICE
  have mMOST_ROWS := PySem.W.mg_of X G gMOST_ROWS
  have mlen := PySem.W.mg_none_of X G blen
  have mrange := PySem.W.mg_none_of X G brange
  have misinstance := PySem.W.mg_none_of X G bisinstance
  have mtuple := PySem.W.mg_none_of X G btuple
  have mstr := PySem.W.mg_none_of X G bstr
  have mint := PySem.W.mg_none_of X G bint
  have mbool := PySem.W.mg_none_of X G bbool
  have mall := PySem.W.mg_none_of X G ball
  have menumerate := PySem.W.mg_none_of X G benumerate
  exact ⟨PySem.W.fnOf "law" "law" (defArgs sLaw) (defBody sLaw) (defScope sLaw) .none kVLaw dcLaw pmLaw anLaw cdLaw ctLaw, fun s v => .of_eq rfl, fun base _ _ => ok_law FLaw DRdf DCB DOB DHas DIsW DWr DNum DEW DRW DNW DAW DER DESR DNR DPR DRR DNTR DAR DCell DDraw DWordBy DPool DCol DSame DRd DNts DLE DLW DScene mlen mrange misinstance mtuple mstr mint mbool mall menumerate mNO_ENTRY mLETTERS mFIGURES mMOST_LETTERS mMOST_PRICE mMOST_ROWS ⟨j1, j2, j3, i6, j4⟩⟩
theorem walk {l : PySem.W.OpenLaw} {q : Program} {loose : List Str} {XP : (Str → Option Value) → Heap → Prop} {YP : World → Heap → Prop} {d : DefRec} {K : Params → PySem.W.Frag} (hn : l.most = some 63) (hdf : d.params.defaults = [])
    (hY : ∀ (w : World) (h : Heap), YP w h → (K w.params).In h)
    (F : ∀ (w : World) (mg : Str → Option Value) (fa : Addr) (h : Heap), (K w.params).In h → h.Ns mainGlobals mg → mg d.name = some (.ref fa) →
      ∃ fd : FuncData, (∀ (s : Shared) (u : Value), BindsTo s fd ⟨[u], []⟩ [("script", u)]) ∧ ∀ base : Heap, (K w.params).In base → base.Ns mainGlobals mg → FnOk l.prog w (K w.params) mg base CX0 8 fa fd ["script"] (spLaw (K w.params))) :
    PySem.W.WalkO q loose XP YP l.row.toRowW d [] (fun f vs => PySem.call f vs) :=
  L3.walk_ofB (n := 63) (k := 8) (x := "script") (CX := fun _ => CX0) (sp := fun w => spLaw (K w.params)) hn (by decide) hdf ⟨rfl, by decide, by decide⟩ hY F (fun _ _ a ns hl hb _ hS => ⟨a, ns, rfl, hS, hl, hb, fun _ => rfl⟩) fun _ _ _ _ _ z => z
end K31
open PySem PySem.W PyProof.Rows
set_option maxRecDepth 100000 in
set_option maxHeartbeats 0 in
theorem PySem.Challenge.cw_vellum_k31_an_apparatus_read_holds : PySem.Challenge.rw_vellum_k31_an_apparatus_read.Holds := by
  w_on; o_law; k_head; (case hw => w_witness2)
  k_fill
  refine K31.walk (l := PySem.Challenge.rw_vellum_k31_an_apparatus_read) rfl rfl (fun w h Y => PySem.W.kIn_of Y) ?F
  case F =>
    intro w mg fa h KX G hmg
    refine' K31.all_mk KX G hmg ?aRdf ?lRdf ?cRdf ?kRdf ?aCB ?lCB ?cCB ?kCB ?aOB ?lOB ?cOB ?kOB ?aHas ?lHas ?cHas ?kHas ?aIsW ?lIsW ?cIsW ?kIsW ?aWr ?lWr ?cWr ?kWr ?aNum ?lNum ?cNum ?kNum ?aEW ?lEW ?cEW ?kEW ?aRW ?lRW ?cRW ?kRW ?aNW ?lNW ?cNW ?kNW ?aAW ?lAW ?cAW ?kAW ?aER ?lER ?cER ?kER ?aESR ?lESR ?cESR ?kESR ?aNR ?lNR ?cNR ?kNR ?aPR ?lPR ?cPR ?kPR ?aRR ?lRR ?cRR ?kRR ?aNTR ?lNTR ?cNTR ?kNTR ?aAR ?lAR ?cAR ?kAR ?aCell ?lCell ?cCell ?kCell ?aDraw ?lDraw ?cDraw ?kDraw ?aWordBy ?lWordBy ?cWordBy ?kWordBy ?aPool ?lPool ?cPool ?kPool ?aCol ?lCol ?cCol ?kCol ?aSame ?lSame ?cSame ?kSame ?aRd ?lRd ?cRd ?kRd ?aNts ?lNts ?cNts ?kNts ?aLE ?lLE ?cLE ?kLE ?aLW ?lLW ?cLW ?kLW ?aScene ?lScene ?cScene ?kScene ?aLaw ?lLaw ?cLaw ?kLaw ?gNO_ENTRY ?gLETTERS ?gFIGURES ?gMOST_LETTERS ?gMOST_PRICE ?gMOST_ROWS ?blen ?brange ?bisinstance ?btuple ?bstr ?bint ?bbool ?ball ?benumerate ?j1 ?j2 ?j3 ?i6 ?j4
    (case aRdf => k_is)
    (case lRdf => k_is)
    (case cRdf => k_is)
    (case kRdf => k_is)
    (case aCB => k_is)
    (case lCB => k_is)
    (case cCB => k_is)
    (case kCB => k_is)
    (case aOB => k_is)
    (case lOB => k_is)
    (case cOB => k_is)
    (case kOB => k_is)
    (case aHas => k_is)
    (case lHas => k_is)
    (case cHas => k_is)
    (case kHas => k_is)
    (case aIsW => k_is)
    (case lIsW => k_is)
    (case cIsW => k_is)
    (case kIsW => k_is)
    (case aWr => k_is)
    (case lWr => k_is)
    (case cWr => k_is)
    (case kWr => k_is)
    (case aNum => k_is)
    (case lNum => k_is)
    (case cNum => k_is)
    (case kNum => k_is)
    (case aEW => k_is)
    (case lEW => k_is)
    (case cEW => k_is)
    (case kEW => k_is)
    (case aRW => k_is)
    (case lRW => k_is)
    (case cRW => k_is)
    (case kRW => k_is)
    (case aNW => k_is)
    (case lNW => k_is)
    (case cNW => k_is)
    (case kNW => k_is)
    (case aAW => k_is)
    (case lAW => k_is)
    (case cAW => k_is)
    (case kAW => k_is)
    (case aER => k_is)
    (case lER => k_is)
    (case cER => k_is)
    (case kER => k_is)
    (case aESR => k_is)
    (case lESR => k_is)
    (case cESR => k_is)
    (case kESR => k_is)
    (case aNR => k_is)
    (case lNR => k_is)
    (case cNR => k_is)
    (case kNR => k_is)
    (case aPR => k_is)
    (case lPR => k_is)
    (case cPR => k_is)
    (case kPR => k_is)
    (case aRR => k_is)
    (case lRR => k_is)
    (case cRR => k_is)
    (case kRR => k_is)
    (case aNTR => k_is)
    (case lNTR => k_is)
    (case cNTR => k_is)
    (case kNTR => k_is)
    (case aAR => k_is)
    (case lAR => k_is)
    (case cAR => k_is)
    (case kAR => k_is)
    (case aCell => k_is)
    (case lCell => k_is)
    (case cCell => k_is)
    (case kCell => k_is)
    (case aDraw => k_is)
    (case lDraw => k_is)
    (case cDraw => k_is)
    (case kDraw => k_is)
    (case aWordBy => k_is)
    (case lWordBy => k_is)
    (case cWordBy => k_is)
    (case kWordBy => k_is)
    (case aPool => k_is)
    (case lPool => k_is)
    (case cPool => k_is)
    (case kPool => k_is)
    (case aCol => k_is)
    (case lCol => k_is)
    (case cCol => k_is)
    (case kCol => k_is)
    (case aSame => k_is)
    (case lSame => k_is)
    (case cSame => k_is)
    (case kSame => k_is)
    (case aRd => k_is)
    (case lRd => k_is)
    (case cRd => k_is)
    (case kRd => k_is)
    (case aNts => k_is)
    (case lNts => k_is)
    (case cNts => k_is)
    (case kNts => k_is)
    (case aLE => k_is)
    (case lLE => k_is)
    (case cLE => k_is)
    (case kLE => k_is)
    (case aLW => k_is)
    (case lLW => k_is)
    (case cLW => k_is)
    (case kLW => k_is)
    (case aScene => k_is)
    (case lScene => k_is)
    (case cScene => k_is)
    (case kScene => k_is)
    (case aLaw => k_is)
    (case lLaw => k_is)
    (case cLaw => k_is)
    (case kLaw => k_is)
    (case gNO_ENTRY => k_is)
    (case gLETTERS => k_is)
    (case gFIGURES => k_is)
    (case gMOST_LETTERS => k_is)
    (case gMOST_PRICE => k_is)
    (case gMOST_ROWS => k_is)
    (case blen => k_is)
    (case brange => k_is)
    (case bisinstance => k_is)
    (case btuple => k_is)
    (case bstr => k_is)
    (case bint => k_is)
    (case bbool => k_is)
    (case ball => k_is)
    (case benumerate => k_is)
    (case j1 => kit_is)
    (case j2 => kit_is)
    (case j3 => kit_is)
    (case i6 => kit_is)
    (case j4 => kit_is)
