import PyProof.Rows.All
import Wide.All
import OpenK.AllK
import Wide.FinOn
import Lean
import PyProof.EqAt
import PyProof.EqKinds
import PyProof.TupleCall
import PySem.Challenge.RW_vellum_k10_whole_slips_lead_to_the_copy

set_option Elab.async false
set_option linter.all false
set_option maxRecDepth 100000
/-! THE HAND LAYER, for ints, bools, texts, own classes, LISTS and tuples (index, slices, in, append, pop ..), calls, loops. Paste it whole ahead of your own text; what your proof does not reach may be deleted. -/
namespace L2
open PySem PySem.Spec PyProof.Rows

/-- a key: an int or a str -/
abbrev Key := Sum Int Str
def keyIs : Key → Value → Bool
  | .inl k, v => Value.isInt k v
  | .inr x, v => Value.isStrOf x v
def keyH (w : World) : Key → Int
  | .inl k => hashInt k
  | .inr x => hashStr w x
theorem keyIs_shape : ∀ {k : Key} {v : Value}, keyIs k v = true → (∃ i t, k = Sum.inl i ∧ v = Value.int i t) ∨ (∃ x t, k = Sum.inr x ∧ v = Value.str x t)
  | .inl i, v, h => by
    obtain ⟨t, e⟩ := Value.isInt_shape (k := i) (v := v) h
    exact .inl ⟨i, t, rfl, e⟩
  | .inr x, v, h => by
    obtain ⟨t, e⟩ := Value.isStrOf_shape (x := x) (v := v) h
    exact .inr ⟨x, t, rfl, e⟩
theorem key_ll (a b : Int) : decide ((Sum.inl a : Key) = Sum.inl b) = (a == b) := by
  by_cases e : a = b
  · subst e; simp
  · have h : ¬ (Sum.inl a : Key) = Sum.inl b := fun q => e (Sum.inl.inj q)
    rw [decide_eq_false h]
    exact (beq_eq_false_iff_ne.mpr e).symm
theorem key_rr (a b : Str) : decide ((Sum.inr a : Key) = Sum.inr b) = decide (a = b) := by
  by_cases e : a = b
  · subst e; simp
  · have h : ¬ (Sum.inr a : Key) = Sum.inr b := fun q => e (Sum.inr.inj q)
    rw [decide_eq_false h, decide_eq_false e]
theorem key_lr (a : Int) (b : Str) : decide ((Sum.inl a : Key) = Sum.inr b) = false := decide_eq_false (fun q => nomatch q)
theorem key_rl (a : Str) (b : Int) : decide ((Sum.inr a : Key) = Sum.inl b) = false := decide_eq_false (fun q => nomatch q)

def mixKind (prog : Program) (w : World) : PySem.KeyKind prog w Key where
  is := keyIs
  hash := keyH w
  inj := fun v a b ha hb => by
    rcases keyIs_shape ha with ⟨i, t, rfl, rfl⟩ | ⟨x, t, rfl, rfl⟩
    · rcases keyIs_shape hb with ⟨j, u, rfl, e⟩ | ⟨y, u, rfl, e⟩
      · injection e with e1 _; rw [e1]
      · exact nomatch e
    · rcases keyIs_shape hb with ⟨j, u, rfl, e⟩ | ⟨y, u, rfl, e⟩
      · exact nomatch e
      · injection e with e1 _; rw [e1]
  byValue := fun k v h => by
    rcases keyIs_shape h with ⟨i, t, rfl, rfl⟩ | ⟨x, t, rfl, rfl⟩ <;> rfl
  pyHash := fun hv h => by
    rcases keyIs_shape hv with ⟨i, t, rfl, rfl⟩ | ⟨x, t, rfl, rfl⟩
    · exact wpAny_pyHash_int h
    · exact wpAny_pyHash_str h
  eqBool := fun hu hv h => by
    rcases keyIs_shape hu with ⟨i, t, rfl, rfl⟩ | ⟨x, t, rfl, rfl⟩
    · rcases keyIs_shape hv with ⟨j, u, rfl, rfl⟩ | ⟨y, u, rfl, rfl⟩
      · rw [key_ll] at h; exact wpAny_eqBool_int h
      · rw [key_lr] at h; exact SeqAt.EqAt.int_str i t y u _ _ _ _ h
    · rcases keyIs_shape hv with ⟨j, u, rfl, rfl⟩ | ⟨y, u, rfl, rfl⟩
      · rw [key_rl] at h; exact SeqAt.EqAt.str_int x t j u _ _ _ _ h
      · rw [key_rr] at h; exact wpAny_eqBool_str h
  «strs» := fun k x t v h => by
    rcases keyIs_shape h with ⟨i, u, rfl, e⟩ | ⟨y, u, rfl, e⟩
    · exact nomatch e
    · injection e with e1 _
      subst e1
      cases v <;> rfl

end L2

namespace L2
open PySem PySem.Spec PyProof.Rows

/-- a value, without the heap -/
inductive V where
  | non | bl (b : Bool) | int (i : Int) | str (x : Str) | byt (b : Array UInt8) | flt (b : UInt64) | ref (a : Addr) | ty (n : String)
  deriving DecidableEq

def RelV : V → Value → Prop
  | .non, u => u = Value.none
  | .bl b, u => u = Value.bool b
  | .int i, u => ∃ t, u = Value.int i t
  | .str x, u => ∃ t, u = Value.str x t
  | .byt b, u => ∃ t, u = Value.bytes b t
  | .flt b, u => ∃ t, u = Value.float b t
  | .ref a, u => u = Value.ref a
  | .ty n, u => u = Value.type n

abbrev Vals : List V → List Value → Prop := Paired RelV
theorem Vals.length {xs : List V} {us : List Value} (r : Vals xs us) : xs.length = us.length := Paired.length r
theorem Vals.get : ∀ {xs : List V} {us : List Value} {i : Nat} {x : V}, Vals xs us → xs[i]? = some x → ∃ u, us[i]? = some u ∧ RelV x u
  | _, _, _, _, .nil, e => by simp at e
  | _, _, 0, _, .cons r _, e => by simp at e; subst e; exact ⟨_, rfl, r⟩
  | _, _, i + 1, x, .cons _ t, e => by
    obtain ⟨u, h1, h2⟩ := Vals.get (i := i) (x := x) t (by simpa using e)
    exact ⟨u, by simpa using h1, h2⟩
theorem Vals.append : ∀ {xs ys : List V} {us ws : List Value}, Vals xs us → Vals ys ws → Vals (xs ++ ys) (us ++ ws)
  | _, _, _, _, .nil, s => s
  | _, _, _, _, .cons r t, s => .cons r (Vals.append t s)
theorem Vals.take : ∀ {xs : List V} {us : List Value} (n : Nat), Vals xs us → Vals (xs.take n) (us.take n)
  | _, _, 0, _ => .nil
  | _, _, _ + 1, .nil => .nil
  | _, _, n + 1, .cons r t => .cons r (Vals.take n t)
theorem Vals.drop : ∀ {xs : List V} {us : List Value} (n : Nat), Vals xs us → Vals (xs.drop n) (us.drop n)
  | _, _, 0, r => r
  | _, _, _ + 1, .nil => .nil
  | _, _, n + 1, .cons _ t => Vals.drop n t
def RelO : Option V → Option Value → Prop
  | some v, some u => RelV v u
  | none, none => True
  | _, _ => False
def KV {κ : Type} : List (κ × V) → List (κ × Value) → Prop := Paired fun (p : κ × V) (q : κ × Value) => p.1 = q.1 ∧ RelV p.2 q.2

/-- what stands at a tracked address -/
inductive HO where
  /-- a list -/
  | lst (xs : List V)
  /-- a tuple (never changes) -/
  | tup (xs : List V)
  /-- a dict whose keys are ints and texts; one whose keys are tuples of ints and texts (the empty one is both) -/
  | dK (kvs : List (Key × V)) | dT (kvs : List (List Key × V))
  /-- a set of ints: its members, its size -/
  | set (S : Int → Bool) (n : Nat)
  /-- an instance of the class at C, its dict at dx, its attributes -/
  | ins (C dx : Addr) (fs : List (Str × V))
  /-- the dict of the instance at x -/
  | own (x : Addr)
  /-- the dict of an exception -/
  | xd (fs : List (Str × V))
  /-- a bound method, f of x -/
  | met (f x : Addr)
  /-- a range object lo, lo + 1, .. below hi -/
  | rng (lo hi : Int)
  /-- a thing that is known to the object (the script; a dict while a loop walks it): read, never written while it is so -/
  | frz (o : Obj) (u : HO)
  /-- a code object's table -/
  | tbl (ps : Array Value)
  /-- any other thing, by what is true of its one object (a def of one's own: SetO a S n := HO.ext fun h => ..) -/
  | ext (φ : Heap → Prop)

abbrev Hp := Addr → Option HO
def upd (H : Hp) (a : Addr) (o : HO) : Hp := fun b => if b = a then some o else H b
theorem upd_same {H : Hp} {a : Addr} {o : HO} : upd H a o a = some o := by unfold upd; rw [if_pos rfl]
theorem upd_ne {H : Hp} {a b : Addr} {o : HO} (h : b ≠ a) : upd H a o b = H b := by unfold upd; rw [if_neg h]
theorem upd_upd {H : Hp} {a : Addr} {o u : HO} : upd (upd H a o) a u = upd H a u := by
  funext b; unfold upd; split <;> rfl
theorem ne_of_none {H : Hp} {a b : Addr} {o : HO} (h : H a = some o) (h' : H b = none) : a ≠ b := by
  intro e; subst e; rw [h] at h'; cases h'

section
variable (P : Program) (w : World)
def ObjOk (H : Hp) (h : Heap) (a : Addr) : HO → Prop
  | .lst xs => xs.length ≤ sizeLine ∧ ∃ (its : List Value) (n : Nat), Vals xs its ∧ h.get? a = some { cls := .type "list", data := .seq its.toArray n }
  | .tup xs => xs.length ≤ sizeLine ∧ ∃ its : List Value, Vals xs its ∧ IsTup h a its.toArray
  | .dK kvs => kvs.length ≤ sizeLine ∧ (a == sysModules) = false ∧ ∃ vs, KV kvs vs ∧ h.DictOf (mixKind P w) a vs
  | .dT _ => False
  | .set S n => h.SetOf (intKind P w) a S n
  | .ins C dx fs => H dx = some (.own a) ∧ fs.length ≤ 1000 ∧ dx ≠ a ∧ h.get? a = some (PySem.W.instObj C dx) ∧
      ∃ mA, h.Ns1 dx mA ∧ (∀ f, RelO (fs.lookup f) (mA f)) ∧ PySem.Within mA (fs.map (·.1))
  | .own _ => ∃ o, h.get? a = some o
  | .xd fs => ∃ mA, h.Ns1 a mA ∧ ∀ f, RelO (fs.lookup f) (mA f)
  | .rng lo hi => ∃ t u v, h.get? a = some { cls := .type "range", data := .fields #[.int lo t, .int hi u, .int 1 v] }
  | .frz o u => h.get? a = some o ∧ ObjOk H h a u
  | .tbl ps => h.get? a = some { cls := .none, data := .fields ps }
  | .met f x => h.get? a = some (PySem.W.methodObj (.ref f) (.ref x))
  | .ext φ => φ h ∧ (∃ o, h.get? a = some o) ∧ ∀ h1 h2 : Heap, φ h1 → (∀ o, h1.get? a = some o → h2.get? a = some o) → φ h2
/-- the abstract heap is held -/
def HOk (H : Hp) (h : Heap) : Prop := ∀ a o, H a = some o → ObjOk P w H h a o
end

section
variable {P : Program} {w : World} {H H' : Hp} {h h' : Heap} {a : Addr} {o : HO}
theorem ObjOk.lt (x : ObjOk P w H h a o) : a < h.objs.size := by
  cases o with
  | lst xs => obtain ⟨_, _, _, _, e⟩ := x; exact Heap.lt_size e
  | tup xs => obtain ⟨_, _, _, p⟩ := x; exact p.lt
  | dK kvs => obtain ⟨_, _, _, _, o, _, _, e, _⟩ := x; exact Heap.lt_size e
  | dT kvs => exact False.elim x
  | set S n => obtain ⟨o, _, _, _, e, _⟩ := x; exact Heap.lt_size e
  | ins C dx fs => obtain ⟨_, _, _, e, _⟩ := x; exact Heap.lt_size e
  | own y => obtain ⟨_, e⟩ := x; exact Heap.lt_size e
  | xd fs => obtain ⟨_, ⟨_, _, _, e, _⟩, _⟩ := x; exact Heap.lt_size e
  | rng lo hi => obtain ⟨_, _, _, e⟩ := x; exact Heap.lt_size e
  | frz ob u => obtain ⟨e, _⟩ := x; exact Heap.lt_size e
  | tbl ps => exact Heap.lt_size (show h.get? a = some _ from x)
  | met f y => exact Heap.lt_size (show h.get? a = some _ from x)
  | ext φ => obtain ⟨_, ⟨_, e⟩, _⟩ := x; exact Heap.lt_size e
/-- what an object's description leans on: its own object, its own dict, the tuples -/
theorem ObjOk.stay (x : ObjOk P w H h a o) (k : ∀ b u, (b = a ∨ H b = some (.own a)) → h.get? b = some u → h'.get? b = some u)
    (ho : ∀ b, H b = some (.own a) → H' b = some (.own a)) (ht : ∀ b xs, H b = some (.tup xs) → H' b = some (.tup xs)) : ObjOk P w H' h' a o := by
  induction o with
  | lst xs => obtain ⟨z, its, n, r, e⟩ := x; exact ⟨z, its, n, r, k _ _ (.inl rfl) e⟩
  | tup xs => obtain ⟨z, its, r, ob, e, c⟩ := x; exact ⟨z, its, r, ob, k _ _ (.inl rfl) e, c⟩
  | dK kvs => obtain ⟨z, y, vs, r, ob, es, ep, e, c⟩ := x; exact ⟨z, y, vs, r, ob, es, ep, k _ _ (.inl rfl) e, c⟩
  | dT kvs => exact False.elim x
  | set S n => obtain ⟨ob, es, ep, t, e, c⟩ := x; exact ⟨ob, es, ep, t, k _ _ (.inl rfl) e, c⟩
  | ins C dx fs =>
    obtain ⟨d, z, ne, e, mA, ⟨od, es, ep, e2, c⟩, r⟩ := x
    exact ⟨ho _ d, z, ne, k _ _ (.inl rfl) e, mA, ⟨od, es, ep, k _ _ (.inr d) e2, c⟩, r⟩
  | own y => obtain ⟨ob, e⟩ := x; exact ⟨ob, k _ _ (.inl rfl) e⟩
  | xd fs => obtain ⟨mA, ⟨od, es, ep, e, c⟩, r⟩ := x; exact ⟨mA, ⟨od, es, ep, k _ _ (.inl rfl) e, c⟩, r⟩
  | rng lo hi => obtain ⟨t, u, v, e⟩ := x; exact ⟨t, u, v, k _ _ (.inl rfl) e⟩
  | frz ob u ih => obtain ⟨e, q⟩ := x; exact ⟨k _ _ (.inl rfl) e, ih q⟩
  | tbl ps =>
    have e : h.get? a = some { cls := .none, data := .fields ps } := x
    show h'.get? a = some { cls := .none, data := .fields ps }
    exact k a _ (.inl rfl) e
  | met f y =>
    have e : h.get? a = some (PySem.W.methodObj (.ref f) (.ref y)) := x
    show h'.get? a = some (PySem.W.methodObj (.ref f) (.ref y))
    exact k a _ (.inl rfl) e
  | ext φ => obtain ⟨p, ⟨o, e⟩, st⟩ := x; exact ⟨st _ _ p fun o q => k _ _ (.inl rfl) q, ⟨o, k _ _ (.inl rfl) e⟩, st⟩
theorem HOk.lt (x : HOk P w H h) (e : H a = some o) : a < h.objs.size := (x a o e).lt
theorem HOk.fresh (x : HOk P w H h) (e : h.objs.size ≤ a) : H a = none := by
  cases q : H a with
  | none => rfl
  | some u => exact absurd (Nat.lt_of_lt_of_le (x.lt q) e) (Nat.lt_irrefl _)
/-- every object of the heap is kept -/
theorem HOk.kept (x : HOk P w H h) (k : ∀ b u, h.get? b = some u → h'.get? b = some u) : HOk P w H h' := fun a o e =>
  (x a o e).stay (fun b u _ q => k b u q) (fun _ q => q) fun _ _ q => q
/-- a new object is laid and tracked -/
theorem HOk.laid (x : HOk P w H h) (k : ∀ b u, h.get? b = some u → h'.get? b = some u) (hp : h.objs.size ≤ a) (new : ObjOk P w (upd H a o) h' a o) : HOk P w (upd H a o) h' := fun b u e => by
  have hn := x.fresh hp
  by_cases hb : b = a
  · subst hb; rw [upd_same] at e; cases e; exact new
  · rw [upd_ne hb] at e
    exact (x b u e).stay (fun c v _ q => k c v q) (fun c q => by rw [upd_ne (ne_of_none q hn)]; exact q) fun c xs q => by rw [upd_ne (ne_of_none q hn)]; exact q
end

/-- what may be read as u: it is u, or a known u -/
def Rd (H : Hp) (a : Addr) (u : HO) : Prop := H a = some u ∨ ∃ o, H a = some (.frz o u)
theorem Rd.ok {P : Program} {w : World} {H : Hp} {h : Heap} {a : Addr} {u : HO} (r : Rd H a u) (x : HOk P w H h) : ObjOk P w H h a u := by
  rcases r with r | ⟨o, r⟩
  · exact x a u r
  · obtain ⟨_, q⟩ := x a _ r
    exact q
/-- what may be written -/
def Mut : Option HO → Prop
  | some (.lst _) => True
  | some (.dK _) => True
  | some (.dT _) => True
  | some (.set _ _) => True
  | some (.ins _ _ _) => True
  | some (.ext _) => True
  | _ => False
section
variable {P : Program} {w : World} {H : Hp} {h h' : Heap} {x e : Addr} {o' : HO}
/-- the object at e is changed: x itself, or the dict of the instance x -/
theorem HOk.write (ok : HOk P w H h) (mu : Mut (H x)) (he : e = x ∨ H e = some (.own x)) (k : ∀ b u, b ≠ e → h.get? b = some u → h'.get? b = some u) (heo : ∃ u, h'.get? e = some u)
    (new : ObjOk P w (upd H x o') h' x o') : HOk P w (upd H x o') h' := fun b u q => by
  have nown : ∀ c y, H c = some (.own y) → c ≠ x := fun c y r z => by subst z; rw [r] at mu; exact mu
  have ntup : ∀ c xs, H c = some (.tup xs) → c ≠ x := fun c xs r z => by subst z; rw [r] at mu; exact mu
  by_cases hb : b = x
  · subst hb; rw [upd_same] at q; cases q; exact new
  · rw [upd_ne hb] at q
    by_cases hbe : b = e
    · have q' : H b = some (.own x) := by
        rcases he with z | z
        · exact absurd (hbe.trans z) hb
        · rw [hbe]; exact z
      rw [q] at q'; cases q'
      obtain ⟨v, hv⟩ := heo
      exact ⟨v, by rw [hbe]; exact hv⟩
    · refine (ok b u q).stay (fun c v hc r => k c v ?_ r) (fun c r => by rw [upd_ne (nown c b r)]; exact r) fun c xs r => by rw [upd_ne (ntup c xs r)]; exact r
      rcases hc with rfl | hc
      · exact hbe
      · rintro rfl
        rcases he with z | z
        · exact nown c b hc z
        · rw [hc] at z; cases z; exact hb rfl
end

/-! ### kept unless tracked; of the frames at fs (the callers') the slots may change (an exception that passes writes there); of the records at ex (iterators) nothing is said -/
structure Un (fs ex : List Addr) (H H' : Hp) (h h' : Heap) : Prop where
  keep : ∀ b o, h.get? b = some o → H b = none → b ∉ fs → b ∉ ex → h'.get? b = some o
  slot : ∀ b o, h.get? b = some o → H b = none → b ∈ fs → b ∉ ex → ∃ sl, h'.get? b = some { o with slots := sl }
  free : ∀ b o, h.get? b = some o → H b = none → b ∉ ex → H' b = none
  there : ∀ b o, h.get? b = some o → b ∉ ex → ∃ o', h'.get? b = some o'
  tups : ∀ b xs, H b = some (.tup xs) → H' b = some (.tup xs)
  frzs : ∀ b o u, H b = some (.frz o u) → H' b = some (.frz o u)
  tbls : ∀ b ps, H b = some (.tbl ps) → ∃ more, H' b = some (.tbl (ps ++ more))
section
variable {fs fs' ex ex' : List Addr} {H H1 H2 : Hp} {h h1 h2 h' : Heap} {a x e : Addr} {o : HO}
theorem Un.any (u : Un fs ex H H1 h h1) {b : Addr} {ob : Obj} (q : h.get? b = some ob) (n : H b = none) (hx : b ∉ ex) : ∃ sl, h1.get? b = some { ob with slots := sl } := by
  by_cases hb : b ∈ fs
  · exact u.slot b ob q n hb hx
  · exact ⟨ob.slots, u.keep b ob q n hb hx⟩
theorem Un.kept (k : ∀ b u, h.get? b = some u → h'.get? b = some u) : Un fs ex H H h h' :=
  ⟨fun b ob q _ _ _ => k b ob q, fun b ob q _ _ _ => ⟨ob.slots, k b ob q⟩, fun _ _ _ n _ => n, fun b ob q _ => ⟨ob, k b ob q⟩, fun _ _ q => q, fun _ _ _ q => q, fun _ ps q => ⟨#[], by rw [q]; simp⟩⟩
theorem Un.refl : Un fs ex H H h h := Un.kept fun _ _ q => q
theorem Un.laid (k : ∀ b u, h.get? b = some u → h'.get? b = some u) (hp : h.objs.size ≤ a) (hn : H a = none) : Un fs ex H (upd H a o) h h' where
  keep := fun b u q _ _ _ => k b u q
  slot := fun b u q _ _ _ => ⟨u.slots, k b u q⟩
  free := fun b u q n _ => by rw [upd_ne (Nat.ne_of_lt (Nat.lt_of_lt_of_le (Heap.lt_size q) hp))]; exact n
  there := fun b u q _ => ⟨u, k b u q⟩
  tups := fun b xs q => by rw [upd_ne (ne_of_none q hn)]; exact q
  frzs := fun b u xs q => by rw [upd_ne (ne_of_none q hn)]; exact q
  tbls := fun b ps q => ⟨#[], by rw [upd_ne (ne_of_none q hn), q]; simp⟩
theorem Un.write (mu : Mut (H x)) (he : e = x ∨ H e = some (.own x)) (k : ∀ b u, b ≠ e → h.get? b = some u → h'.get? b = some u) (heo : ∃ u, h'.get? e = some u) : Un fs ex H (upd H x o) h h' := by
  have hx : ∀ b, H b = none → b ≠ x := fun b n z => by subst z; rw [n] at mu; exact mu
  have hb : ∀ b, H b = none → b ≠ e := fun b n z => by
    subst z
    rcases he with r | r
    · exact hx b n r
    · rw [n] at r; cases r
  have hm : ∀ b u, H b = some u → ¬ Mut (some u) → b ≠ x := fun b u q nm z => by subst z; rw [q] at mu; exact nm mu
  refine ⟨fun b u q n _ _ => k b u (hb b n) q, fun b u q n _ _ => ⟨u.slots, k b u (hb b n) q⟩, fun b u q n _ => by rw [upd_ne (hx b n)]; exact n, fun b u q _ => ?_,
    fun b xs q => by rw [upd_ne (hm b _ q fun z => z)]; exact q, fun b u xs q => by rw [upd_ne (hm b _ q fun z => z)]; exact q, fun b ps q => ⟨#[], by rw [upd_ne (hm b _ q fun z => z), q]; simp⟩⟩
  by_cases hbe : b = e
  · subst hbe; exact heo
  · exact ⟨u, k b u hbe q⟩
end

/-! ### the heap without what is tracked -/
def trk (h : Heap) (H : Hp) : List Addr := (List.range h.objs.size).filter fun a => (H a).isSome
def hidT (h : Heap) (H : Hp) : Heap := PySem.W.hideAll h (trk h H)
theorem hidT_size (h : Heap) (H : Hp) : (hidT h H).objs.size = h.objs.size := PySem.W.hideAll_size _ _
theorem hidT_get {h : Heap} {H : Hp} {b : Addr} {o : Obj} (e : h.get? b = some o) (n : H b = none) : (hidT h H).get? b = some o :=
  PySem.W.hideAll_get _ e fun hm => by
    have q : (H b).isSome = true := (List.mem_filter.mp hm).2
    rw [n] at q; simp at q
theorem of_hidT {h : Heap} {H : Hp} {b : Addr} {o : Obj} (e : (hidT h H).get? b = some o) : h.get? b = some o ∧ H b = none := by
  have e' : h.get? b = some o := PySem.W.of_hideAll (trk h H) e
  refine ⟨e', ?_⟩
  cases q : H b with
  | none => rfl
  | some x =>
    have hm : b ∈ trk h H := List.mem_filter.mpr ⟨List.mem_range.mpr (Heap.lt_size e'), by simp [q]⟩
    have z : (hidT h H).get? b = none := PySem.W.hideAll_none (trk h H) hm
    rw [z] at e; cases e

/-! ### OpenK's ledger, filled with every new object but one -/
end L2

namespace L2
open PySem PySem.Spec PyProof.Rows

/-- the module's facts, over the base: the heap at the law's entry without what is tracked there -/
structure Mod (K : PySem.W.Frag) (mg : Str → Option Value) (base : Heap) : Prop where
  kin : K.In base
  glob : base.Ns mainGlobals mg
  blt : ∃ mb, base.Ns builtinsNs mb ∧ ∀ x : Str, x ≠ "__name__" → mb x = bootBuiltins x
  nolimit : base.NoLimit

/-- the context: a def's body (or a comprehension's block) running. base: fixed through the whole law; s₀, H₀: the entry; outer: the frames whose slots others may change (a def's callers); stack: all frames that run;
   ex: iterators that were made ahead of the entry and are walked here (a comprehension's); fn: the names whose cells were made at the entry (a def: all; a comprehension's block: its own); calm: not within an except suite; pn: pins that every state bears; xe: what is wanted of an exception that leaves the code -/
structure Cx where
  prog : Program
  w : World
  K : PySem.W.Frag
  mg : Str → Option Value
  base : Heap
  A : Around
  N : List Str
  s₀ : Shared
  H₀ : Hp
  env : Env
  outer : List Env
  stack : List Env
  ex : List Addr
  fn : Str → Bool
  calm : Bool
  pn : List (Addr × Obj)
  xe : Value → Shared → Prop
/-- the callers' frames -/
def frs (l : List Env) : List Addr := l.filterMap (·.frame)
abbrev Cx.fs (X : Cx) : List Addr := frs X.outer

def Vis (sc : Scope) (x : Str) : Prop := sc.names.lookup x = some .local ∨ sc.names.lookup x = some .cell ∨ sc.names.lookup x = some .free
def Loc (sc : Scope) (x : Str) : Prop := sc.names.lookup x = some .local ∨ sc.names.lookup x = some .cell
def Look (env : Env) (h : Heap) (m : Str → Option Value) (x : Str) (u : Value) : Prop :=
  (env.kindOf x = some .local ∧ m x = some u) ∨ ((env.kindOf x = some .cell ∨ env.kindOf x = some .free) ∧ ∃ c, env.cells.lookup x = some c ∧ h.IsCell c (some u))

structure Cx.Ok (X : Cx) : Prop where
  mod : Mod X.K X.mg X.base
  kind : X.env.scope.kind = .function
  glob : X.env.globals = mainGlobals
  blt : X.env.builtins = builtinsNs
  above : X.s₀.heap.objs.size ≤ X.env.locals
  inj : ∀ x y c, X.env.cells.lookup x = some c → X.env.cells.lookup y = some c → x = y
  has : ∀ x, (X.env.kindOf x = some .cell ∨ X.env.kindOf x = some .free) → ∃ c, X.env.cells.lookup x = some c
  cab : ∀ x c, X.fn x = true → X.env.cells.lookup x = some c → X.s₀.heap.objs.size ≤ c
  hd : X.calm = true → X.A.handled = none
  frames : X.A.frames = some X.stack
  stk : X.stack = X.outer ∨ (X.stack = X.env :: X.outer ∧ X.env.frame = some X.env.locals)
  exf : ∀ b ∈ X.ex, b ≠ X.env.locals ∧ ∀ x c, X.env.cells.lookup x = some c → c ≠ b
  bs : ∀ b o, X.base.get? b = some o → X.s₀.heap.get? b = some o ∧ X.H₀ b = none
  bsz : X.base.objs.size ≤ X.s₀.heap.objs.size
  noex : ∀ b o, X.base.get? b = some o → b ∉ X.ex
  exfs : ∀ b ∈ X.ex, b ∉ X.fs
  funs : X.s₀.heap.FunFrames X.base X.outer
  frf : ∀ b ∈ X.fs, X.H₀ b = none

structure Inv (X : Cx) (pins : List (Addr × Obj)) (σ : List (Option V)) (H : Hp) (s : Shared) : Prop where
  ok : X.Ok
  os : s.os = X.s₀.os
  bare : AllBare s.gens
  base : Un X.fs X.ex X.H₀ H X.s₀.heap s.heap
  loc : ∃ m, s.heap.Ns X.env.locals m ∧ ∀ (i : Nat) (x : Str) (v : V), X.N[i]? = some x → σ[i]? = some (some v) → Vis X.env.scope x → ∃ u, RelV v u ∧ Look X.env s.heap m x u
  cell : ∀ x c, X.env.cells.lookup x = some c → ∃ v, s.heap.IsCell c v
  free : H X.env.locals = none
  freeC : ∀ x c, X.env.cells.lookup x = some c → H c = none
  pin : ∀ p ∈ X.pn ++ pins, s.heap.get? p.1 = some p.2 ∧ H p.1 = none ∧ p.1 ≠ X.env.locals ∧ p.1 ∉ X.fs ∧ ∀ v, p.2.data ≠ .cell v
  hok : HOk X.prog X.w H s.heap
  len : σ.length = X.N.length

section
variable {X : Cx} {pins : List (Addr × Obj)} {σ : List (Option V)} {H H' : Hp} {s : Shared} {h' : Heap}

theorem Cx.Ok.nofr (ok : X.Ok) {b : Addr} {o : Obj} (e : X.base.get? b = some o) : b ∉ X.fs := fun hb => by
  have := (ok.funs.mem hb).1
  rw [e] at this; cases this
theorem Inv.bs (I : Inv X pins σ H s) : ∀ b o, X.base.get? b = some o → s.heap.get? b = some o ∧ H b = none := fun b o e =>
  ⟨I.base.keep b o (I.ok.bs b o e).1 (I.ok.bs b o e).2 (I.ok.nofr e) (I.ok.noex b o e), I.base.free b o (I.ok.bs b o e).1 (I.ok.bs b o e).2 (I.ok.noex b o e)⟩
theorem Inv.bk (I : Inv X pins σ H s) : ∀ b o, X.base.get? b = some o → s.heap.get? b = some o := fun b o e => (I.bs b o e).1
theorem Inv.mod (I : Inv X pins σ H s) : Mod X.K X.mg X.base := I.ok.mod
theorem Inv.kIn (I : Inv X pins σ H s) : X.K.In s.heap := I.ok.mod.kin.keeps I.bk
theorem Inv.lt (I : Inv X pins σ H s) : X.env.locals < s.heap.objs.size := let ⟨_, hn, _⟩ := I.loc; hn.lt
theorem Inv.sz (I : Inv X pins σ H s) : X.s₀.heap.objs.size ≤ s.heap.objs.size := Nat.le_trans I.ok.above (Nat.le_of_lt I.lt)
theorem Inv.nofs (I : Inv X pins σ H s) {a : Addr} (h : s.heap.objs.size ≤ a) : a ∉ X.fs := fun hb => by
  obtain ⟨_, o, ho, _⟩ := I.ok.funs.mem hb
  exact absurd (Nat.lt_of_lt_of_le (Heap.lt_size ho) (Nat.le_trans I.sz h)) (Nat.lt_irrefl _)
theorem Inv.cne (I : Inv X pins σ H s) : ∀ x c, X.env.cells.lookup x = some c → c ≠ X.env.locals := fun x c e z => by
  obtain ⟨v, o, ho, hd⟩ := I.cell x c e
  obtain ⟨m, ⟨o', es, ep, ho', hd', _⟩, _⟩ := I.loc
  rw [z, ho'] at ho; cases ho; rw [hd'] at hd; cases hd
theorem Inv.funs (I : Inv X pins σ H s) : s.heap.FunFrames X.base X.outer := by
  have all : ∀ (l : List Env), (∀ b ∈ frs l, b ∈ X.fs) → X.s₀.heap.FunFrames X.base l → s.heap.FunFrames X.base l := by
    intro l
    induction l with
    | nil => intro _ _; trivial
    | cons env r ih =>
      intro hs hl
      obtain ⟨hk, ⟨L, o, hf, hn, ho, hd⟩, hr⟩ := hl
      have hL : L ∈ X.fs := hs L (by unfold frs; rw [List.filterMap_cons, hf]; exact List.mem_cons_self)
      obtain ⟨sl, e⟩ := I.base.slot L o ho (I.ok.frf L hL) hL fun z => I.ok.exfs L z hL
      exact ⟨hk, ⟨L, _, hf, hn, e, hd⟩, ih (fun b hb => hs b (by unfold frs; rw [List.filterMap_cons, hf]; exact List.mem_cons_of_mem _ hb)) hr⟩
  exact all X.outer (fun _ hb => hb) I.ok.funs

/-- the frames that run, for a call -/
theorem Inv.stack (I : Inv X pins σ H s) : s.heap.FunFrames X.base X.stack := by
  rcases I.ok.stk with e | ⟨e, hf⟩
  · rw [e]; exact I.funs
  · rw [e]
    obtain ⟨m, hn, _⟩ := I.loc
    refine .cons (by rw [I.ok.kind]; decide) hf hn ?_ I.funs
    exact Heap.get?_none_of_le (Nat.le_trans I.ok.bsz I.ok.above)
theorem Inv.stkSub (I : Inv X pins σ H s) : ∀ b ∈ frs X.stack, b ∈ X.env.locals :: X.fs := fun b hb => by
  rcases I.ok.stk with e | ⟨e, hf⟩
  · rw [e] at hb; exact List.mem_cons_of_mem _ hb
  · rw [e] at hb
    unfold frs at hb
    rw [List.filterMap_cons, hf] at hb
    exact hb
theorem Inv.stkFree (I : Inv X pins σ H s) : ∀ b ∈ frs X.stack, H b = none := fun b hb => by
  rcases List.mem_cons.mp (I.stkSub b hb) with e | hb
  · rw [e]; exact I.free
  · obtain ⟨_, o, ho, _⟩ := I.ok.funs.mem hb
    exact I.base.free b o ho (I.ok.frf b hb) fun z => I.ok.exfs b z hb

/-- THE STEP: the untracked objects but the frame and the records at ch are kept (the callers' frames up to slots), the frame's map is kept, the new abstract heap is held -/
theorem Inv.step {g' : Array GenState} {t' : Nat} {d' : Drawn} {ch : List Addr} (I : Inv X pins σ H s)
    (hch : ∀ b ∈ ch, (b ∈ X.ex ∨ X.s₀.heap.objs.size ≤ b) ∧ b ≠ X.env.locals ∧ (∀ x c, X.env.cells.lookup x = some c → c ≠ b) ∧ ∀ p ∈ X.pn ++ pins, p.1 ≠ b)
    (keep : ∀ b o, b ≠ X.env.locals → b ∉ X.fs → b ∉ ch → s.heap.get? b = some o → H b = none → h'.get? b = some o)
    (slot : ∀ b o, b ≠ X.env.locals → b ∈ X.fs → b ∉ ch → s.heap.get? b = some o → H b = none → ∃ sl, h'.get? b = some { o with slots := sl }) (free : ∀ b o, b ∉ ch → s.heap.get? b = some o → H b = none → H' b = none)
    (there : ∀ b o, b ∉ ch → s.heap.get? b = some o → ∃ o', h'.get? b = some o')
    (tups : ∀ b xs, H b = some (.tup xs) → H' b = some (.tup xs)) (frzs : ∀ b o u, H b = some (.frz o u) → H' b = some (.frz o u)) (tbls : ∀ b ps, H b = some (.tbl ps) → ∃ more, H' b = some (.tbl (ps ++ more)))
    (ns : ∀ m, s.heap.Ns X.env.locals m → h'.Ns X.env.locals m) (hok : HOk X.prog X.w H' h') (hg : AllBare g') :
    Inv X pins σ H' { s with heap := h', gens := g', drawn := d', toks := t' } := by
  have neL : ∀ b o, X.s₀.heap.get? b = some o → b ≠ X.env.locals := fun b o e => Nat.ne_of_lt (Nat.lt_of_lt_of_le (Heap.lt_size e) I.ok.above)
  have neC : ∀ b o, X.s₀.heap.get? b = some o → b ∉ X.ex → b ∉ ch := fun b o e hx hb => by
    rcases (hch b hb).1 with z | z
    · exact hx z
    · exact absurd (Nat.lt_of_lt_of_le (Heap.lt_size e) z) (Nat.lt_irrefl _)
  have cellK : ∀ x c, X.env.cells.lookup x = some c → ∀ v, s.heap.IsCell c v → h'.IsCell c v := fun x c e v ⟨o, ho, hd⟩ => by
    have nch : c ∉ ch := fun z => (hch c z).2.2.1 x c e rfl
    by_cases hc : c ∈ X.fs
    · obtain ⟨sl, q⟩ := slot c o (I.cne x c e) hc nch ho (I.freeC x c e)
      exact ⟨_, q, hd⟩
    · exact ⟨o, keep c o (I.cne x c e) hc nch ho (I.freeC x c e), hd⟩
  refine ⟨I.ok, I.os, hg, ⟨fun b o e n hb hx => ?_, fun b o e n hb hx => ?_, fun b o e n hx => ?_, fun b o e hx => ?_, fun b xs e => tups b xs (I.base.tups b xs e), fun b o xs e => frzs b o xs (I.base.frzs b o xs e), fun b ps e => ?_⟩, ?_, fun x c e => ?_, ?_, fun x c e => ?_, fun p hp => ?_, hok, I.len⟩
  · exact keep b o (neL b o e) hb (neC b o e hx) (I.base.keep b o e n hb hx) (I.base.free b o e n hx)
  · obtain ⟨sl, e1⟩ := I.base.slot b o e n hb hx
    obtain ⟨sl', e2⟩ := slot b _ (neL b o e) hb (neC b o e hx) e1 (I.base.free b o e n hx)
    exact ⟨sl', e2⟩
  · obtain ⟨o', e1⟩ := I.base.there b o e hx
    exact free b o' (neC b o e hx) e1 (I.base.free b o e n hx)
  · obtain ⟨o', e1⟩ := I.base.there b o e hx
    exact there b o' (neC b o e hx) e1
  · obtain ⟨m1, e1⟩ := I.base.tbls b ps e
    obtain ⟨m2, e2⟩ := tbls b _ e1
    exact ⟨m1 ++ m2, by rw [e2, Array.append_assoc]⟩
  · obtain ⟨m, hn, hl⟩ := I.loc
    refine ⟨m, ns m hn, fun i x v e1 e2 e3 => ?_⟩
    obtain ⟨u, r, l⟩ := hl i x v e1 e2 e3
    refine ⟨u, r, ?_⟩
    rcases l with l | ⟨k, c, e, z⟩
    · exact .inl l
    · exact .inr ⟨k, c, e, cellK x c e _ z⟩
  · obtain ⟨v, z⟩ := I.cell x c e
    exact ⟨v, cellK x c e v z⟩
  · obtain ⟨m, ⟨o, _, _, ho, _⟩, _⟩ := I.loc
    exact free _ o (fun z => (hch _ z).2.1 rfl) ho I.free
  · obtain ⟨v, o, ho, hd⟩ := I.cell x c e
    exact free c o (fun z => (hch c z).2.2.1 x c e rfl) ho (I.freeC x c e)
  · obtain ⟨e, n, ne, nf, d⟩ := I.pin p hp
    have nch : p.1 ∉ ch := fun z => (hch p.1 z).2.2.2 p hp rfl
    exact ⟨keep p.1 p.2 ne nf nch e n, free p.1 p.2 nch e n, ne, nf, d⟩
/-- .. where the frame's own object is kept too -/
theorem Inv.un {t' : Nat} (I : Inv X pins σ H s) (u : Un X.fs [] H H' s.heap h') (hok : HOk X.prog X.w H' h') : Inv X pins σ H' { s with heap := h', toks := t' } := by
  obtain ⟨m, ⟨o, es, ep, ho, r⟩, _⟩ := id I.loc
  obtain ⟨sl, hL⟩ := u.any ho I.free (by simp)
  exact I.step (g' := s.gens) (d' := s.drawn) (ch := []) (fun _ z => nomatch z) (fun b o _ hb _ e n => u.keep b o e n hb (by simp)) (fun b o _ hb _ e n => u.slot b o e n hb (by simp)) (fun b o _ e n => u.free b o e n (by simp)) (fun b o _ e => u.there b o e (by simp)) u.tups u.frzs u.tbls (fun m' hm => by
    obtain ⟨o', es', ep', ho', r'⟩ := hm
    rw [ho] at ho'; cases ho'
    exact ⟨_, es', ep', hL, r'⟩) hok I.bare
/-- behind a call (or a comprehension's block): the slots of this frame may have changed too, the records at ch may have turned -/
theorem Inv.call {g' : Array GenState} {t' : Nat} {d' : Drawn} {ch : List Addr} (I : Inv X pins σ H s) (u : Un (frs X.stack) ch H H' s.heap h') (hok : HOk X.prog X.w H' h') (hg : AllBare g')
    (hch : ∀ b ∈ ch, (b ∈ X.ex ∨ X.s₀.heap.objs.size ≤ b) ∧ b ≠ X.env.locals ∧ (∀ x c, X.env.cells.lookup x = some c → c ≠ b) ∧ ∀ p ∈ X.pn ++ pins, p.1 ≠ b) :
    Inv X pins σ H' { s with heap := h', gens := g', drawn := d', toks := t' } := by
  obtain ⟨m, ⟨o, es, ep, ho, r⟩, _⟩ := id I.loc
  obtain ⟨sl, hL⟩ := u.any ho I.free fun z => (hch _ z).2.1 rfl
  exact I.step (ch := ch) hch (fun b o hL hb hc e n => u.keep b o e n (fun z => (List.mem_cons.mp (I.stkSub b z)).elim hL hb) hc) (fun b o _ _ hc e n => u.any e n hc) (fun b o hc e n => u.free b o e n hc) (fun b o hc e => u.there b o e hc) u.tups u.frzs u.tbls (fun m' hm => by
    obtain ⟨o', es', ep', ho', r'⟩ := hm
    rw [ho] at ho'; cases ho'
    exact ⟨_, es', ep', hL, r'⟩) hok hg
/-- an untracked record of ours (an iterator) has turned -/
theorem Inv.turned {t' : Nat} {it : Addr} (I : Inv X pins σ H s) (k : ∀ b o, b ≠ it → s.heap.get? b = some o → h'.get? b = some o) (hn : H it = none) (hL : it ≠ X.env.locals)
    (h1 : it ∈ X.ex ∨ X.s₀.heap.objs.size ≤ it) (h2 : ∀ x c, X.env.cells.lookup x = some c → c ≠ it) (h3 : ∀ p ∈ X.pn ++ pins, p.1 ≠ it) : Inv X pins σ H { s with heap := h', toks := t' } := by
  have nit : ∀ b u, H b = some u → b ≠ it := fun b u e z => by rw [z, hn] at e; cases e
  refine I.step (g' := s.gens) (d' := s.drawn) (ch := [it]) (fun b hb => ?_) (fun b o _ _ hc e _ => k b o (fun z => hc (by simp [z])) e) (fun b o _ _ hc e _ => ⟨o.slots, k b o (fun z => hc (by simp [z])) e⟩) (fun _ _ _ _ n => n)
    (fun b o hc e => ⟨o, k b o (fun z => hc (by simp [z])) e⟩) (fun _ _ e => e) (fun _ _ _ e => e) (fun b ps e => ⟨#[], by rw [e]; simp⟩) (fun m hm => ?_) (fun b u e => ?_) I.bare
  · have e : b = it := by simpa using hb
    subst e
    exact ⟨h1, hL, h2, h3⟩
  · obtain ⟨o, es, ep, ho, r⟩ := hm
    exact ⟨o, es, ep, k _ o (Ne.symm hL) ho, r⟩
  · refine (I.hok b u e).stay (fun c v hc q => k c v ?_ q) (fun _ q => q) fun _ _ q => q
    rcases hc with z | z
    · rw [z]; exact nit b u e
    · exact nit c _ z
theorem Inv.tok (I : Inv X pins σ H s) (t : Nat) : Inv X pins σ H { s with toks := t } := I.un (h' := s.heap) (t' := t) Un.refl I.hok
/-- all objects kept -/
theorem Inv.kept {t' : Nat} (I : Inv X pins σ H s) (k : ∀ b u, s.heap.get? b = some u → h'.get? b = some u) : Inv X pins σ H { s with heap := h', toks := t' } := I.un (Un.kept k) (I.hok.kept k)
/-- a new object laid and tracked -/
theorem Inv.laid {a : Addr} {o : HO} {t' : Nat} (I : Inv X pins σ H s) (k : ∀ b u, s.heap.get? b = some u → h'.get? b = some u) (hp : s.heap.objs.size ≤ a) (new : ObjOk X.prog X.w (upd H a o) h' a o) :
    Inv X pins σ (upd H a o) { s with heap := h', toks := t' } := I.un (Un.laid k hp (I.hok.fresh hp)) (I.hok.laid k hp new)
/-- an object written -/
theorem Inv.write {x e : Addr} {o : HO} {t' : Nat} (I : Inv X pins σ H s) (mu : Mut (H x)) (he : e = x ∨ H e = some (.own x)) (k : ∀ b u, b ≠ e → s.heap.get? b = some u → h'.get? b = some u) (heo : ∃ u, h'.get? e = some u)
    (new : ObjOk X.prog X.w (upd H x o) h' x o) : Inv X pins σ (upd H x o) { s with heap := h', toks := t' } := I.un (Un.write mu he k heo) (I.hok.write mu he k heo new)
theorem Inv.pins_of {pins' : List (Addr × Obj)} (I : Inv X pins σ H s) (h : ∀ p ∈ pins', s.heap.get? p.1 = some p.2 ∧ H p.1 = none ∧ p.1 ≠ X.env.locals ∧ p.1 ∉ X.fs ∧ ∀ v, p.2.data ≠ .cell v) : Inv X pins' σ H s :=
  ⟨I.ok, I.os, I.bare, I.base, I.loc, I.cell, I.free, I.freeC, fun p hp => (List.mem_append.mp hp).elim (fun z => I.pin p (List.mem_append_left _ z)) (h p), I.hok, I.len⟩

theorem nodup_ix {N : List Str} (hN : N.Nodup) {i j : Nat} {x : Str} (a : N[i]? = some x) (b : N[j]? = some x) : i = j := by
  obtain ⟨h1, e1⟩ := List.getElem?_eq_some_iff.mp a
  obtain ⟨h2, e2⟩ := List.getElem?_eq_some_iff.mp b
  exact (List.getElem_inj hN).mp (e1.trans e2.symm)

/-- a name is stored; what changed -/
theorem store_ok2 {M : Model} {A : Around} {E : Value → Shared → Prop} {i : Nat} {x : Str} {v : V} {u : Value} {Q : Unit → Shared → Prop} (I : Inv X pins σ H s) (hN : X.N.Nodup) (hi : X.N[i]? = some x) (hx : Loc X.env.scope x) (r : RelV v u)
    (h : ∀ s', Inv X pins (σ.set i (some v)) H s' → (∃ a, Heap.SameBut a s.heap s'.heap ∧ (a = X.env.locals ∨ X.env.cells.lookup x = some a)) → Q () s') (hf : X.fn x = true ∨ X.env.scope.names.lookup x = some .local := by first | exact .inl rfl | exact .inr rfl | assumption) : wpAny M A (storeName X.env x u) Q E s := by
  obtain ⟨m, hn, hl⟩ := id I.loc
  have hcls : (X.env.scope.kind == .class || (X.env.scope.kind == .module && X.env.locals != X.env.globals)) = false := by rw [I.ok.kind]; rfl
  have hiσ : i < σ.length := by rw [I.len]; exact (List.getElem?_eq_some_iff.mp hi).1
  have cne := I.cne
  have tracked : ∀ {a : Addr} {h' : Heap}, (∃ o, s.heap.get? a = some o ∧ H a = none) → Heap.SameBut a s.heap h' → HOk X.prog X.w H h' := fun {a h'} ha hs b ob e => by
    obtain ⟨_, _, hfree⟩ := ha
    refine (I.hok b ob e).stay (fun c w' hc q => (hs.2 c ?_).trans q) (fun _ q => q) fun _ _ q => q
    rintro rfl
    rcases hc with rfl | hc
    · rw [hfree] at e; cases e
    · rw [hfree] at hc; cases hc
  rcases hx with hk | hk
  · refine wpAny_storeName_local hk hn (fun h' hn' hs => ?_) hcls
    obtain ⟨oL, _, _, hoL, _⟩ := id hn
    refine h _ ⟨I.ok, I.os, I.bare, ⟨fun b o e n hb hx => ?_, fun b o e n hb hx => ?_, I.base.free, fun b o e hx => ?_, I.base.tups, I.base.frzs, I.base.tbls⟩, ⟨_, hn', fun j y v' e1 e2 e3 => ?_⟩, fun y c e => ?_, I.free, I.freeC, fun p hp => ?_, tracked ⟨oL, hoL, I.free⟩ hs, by simpa using I.len⟩ ⟨_, hs, .inl rfl⟩
    · exact (hs.2 b (Nat.ne_of_lt (Nat.lt_of_lt_of_le (Heap.lt_size e) I.ok.above))).trans (I.base.keep b o e n hb hx)
    · obtain ⟨sl, e1⟩ := I.base.slot b o e n hb hx
      exact ⟨sl, (hs.2 b (Nat.ne_of_lt (Nat.lt_of_lt_of_le (Heap.lt_size e) I.ok.above))).trans e1⟩
    · obtain ⟨o', e1⟩ := I.base.there b o e hx
      exact ⟨o', (hs.2 b (Nat.ne_of_lt (Nat.lt_of_lt_of_le (Heap.lt_size e) I.ok.above))).trans e1⟩
    · by_cases hj : j = i
      · subst hj
        rw [hi] at e1; cases e1
        rw [List.getElem?_set_self hiσ] at e2
        cases e2
        exact ⟨u, r, .inl ⟨hk, by simp⟩⟩
      · rw [List.getElem?_set_ne (Ne.symm hj)] at e2
        obtain ⟨u', r', q⟩ := hl j y v' e1 e2 e3
        refine ⟨u', r', ?_⟩
        rcases q with ⟨k, e⟩ | ⟨k, c, e, z⟩
        · refine .inl ⟨k, ?_⟩
          have : y ≠ x := fun e => hj (nodup_ix hN e1 (e ▸ hi))
          simp [this, e]
        · exact .inr ⟨k, c, e, z.sameBut hs (cne y c e)⟩
    · obtain ⟨w', z⟩ := I.cell y c e
      exact ⟨w', z.sameBut hs (cne y c e)⟩
    · obtain ⟨e, n, ne, nf, d⟩ := I.pin p hp
      exact ⟨(hs.2 p.1 ne).trans e, n, ne, nf, d⟩
  · have hfn : X.fn x = true := by
      rcases hf with z | z
      · exact z
      · rw [z] at hk; cases hk
    obtain ⟨c, hc⟩ := I.ok.has x (.inl hk)
    obtain ⟨w', z⟩ := I.cell x c hc
    refine wpAny_storeName_cell I.ok.kind hk hc z (fun h' hc' hs => ?_)
    obtain ⟨oc, hoc, hocd⟩ := id z
    refine h { s with heap := h' } ⟨I.ok, I.os, I.bare, ⟨fun b o e n hb hx => ?_, fun b o e n hb hx => ?_, I.base.free, fun b o e hx => ?_, I.base.tups, I.base.frzs, I.base.tbls⟩, ⟨m, hn.sameBut hs (Ne.symm (cne x c hc)), fun j y v' e1 e2 e3 => ?_⟩, fun y c' e => ?_, I.free, I.freeC, fun p hp => ?_, tracked ⟨oc, hoc, I.freeC x c hc⟩ hs, by simpa using I.len⟩ ⟨c, hs, .inr hc⟩
    · exact (hs.2 b (Nat.ne_of_lt (Nat.lt_of_lt_of_le (Heap.lt_size e) (I.ok.cab x c hfn hc)))).trans (I.base.keep b o e n hb hx)
    · obtain ⟨sl, e1⟩ := I.base.slot b o e n hb hx
      exact ⟨sl, (hs.2 b (Nat.ne_of_lt (Nat.lt_of_lt_of_le (Heap.lt_size e) (I.ok.cab x c hfn hc)))).trans e1⟩
    · obtain ⟨o', e1⟩ := I.base.there b o e hx
      exact ⟨o', (hs.2 b (Nat.ne_of_lt (Nat.lt_of_lt_of_le (Heap.lt_size e) (I.ok.cab x c hfn hc)))).trans e1⟩
    · by_cases hj : j = i
      · subst hj
        rw [hi] at e1; cases e1
        rw [List.getElem?_set_self hiσ] at e2
        cases e2
        exact ⟨u, r, .inr ⟨.inl hk, c, hc, hc'⟩⟩
      · rw [List.getElem?_set_ne (Ne.symm hj)] at e2
        obtain ⟨u', r', q⟩ := hl j y v' e1 e2 e3
        refine ⟨u', r', ?_⟩
        rcases q with q | ⟨k, c', e, z'⟩
        · exact .inl q
        · refine .inr ⟨k, c', e, z'.sameBut hs ?_⟩
          rintro rfl
          exact hj (nodup_ix hN e1 (I.ok.inj _ _ _ e hc ▸ hi))
    · by_cases hcc : c' = c
      · subst hcc; exact ⟨_, hc'⟩
      · obtain ⟨w2, z2⟩ := I.cell y c' e
        exact ⟨w2, z2.sameBut hs hcc⟩
    · obtain ⟨e, n, ne, nf, d⟩ := I.pin p hp
      refine ⟨(hs.2 p.1 ?_).trans e, n, ne, nf, d⟩
      intro q
      rw [q, hoc] at e
      have q' : oc = p.2 := Option.some.inj e
      exact d w' (by rw [← q']; exact hocd)
theorem store_ok {M : Model} {A : Around} {E : Value → Shared → Prop} {i : Nat} {x : Str} {v : V} {u : Value} {Q : Unit → Shared → Prop} (I : Inv X pins σ H s) (hN : X.N.Nodup) (hi : X.N[i]? = some x) (hx : Loc X.env.scope x) (r : RelV v u)
    (h : ∀ s', Inv X pins (σ.set i (some v)) H s' → Q () s') (hf : X.fn x = true ∨ X.env.scope.names.lookup x = some .local := by first | exact .inl rfl | exact .inr rfl | assumption) : wpAny M A (storeName X.env x u) Q E s :=
  store_ok2 I hN hi hx r (fun s' I' _ => h s' I') hf
/-- behind a call or a block, the state as it is -/
theorem Inv.call' {s' : Shared} {ch : List Addr} (I : Inv X pins σ H s) (ho : s'.os = s.os) (u : Un (frs X.stack) ch H H' s.heap s'.heap) (hok : HOk X.prog X.w H' s'.heap) (hg : AllBare s'.gens)
    (hch : ∀ b ∈ ch, (b ∈ X.ex ∨ X.s₀.heap.objs.size ≤ b) ∧ b ≠ X.env.locals ∧ (∀ x c, X.env.cells.lookup x = some c → c ≠ b) ∧ ∀ p ∈ X.pn ++ pins, p.1 ≠ b) : Inv X pins σ H' s' := by
  obtain ⟨h', g', d', t', o'⟩ := s'
  have e : o' = s.os := ho
  subst e
  exact I.call (g' := g') (t' := t') (d' := d') u hok hg hch
end

/-! ### the judgements -/
/-- an exception: its class, its own dict's address (where it has one), the abstract heap behind it -/
abbrev XK := Value → Option Addr → Hp → Prop
abbrev St := List (Option V)
abbrev VK := V → Hp → Prop
/-- an expression's reading; a test's; an argument list's -/
abbrev TE := St → Hp → VK → Prop
abbrev TT := St → Hp → (Bool → Hp → Prop) → Prop
abbrev TA := St → Hp → (List V → Hp → Prop) → Prop
/-- what is wanted behind a statement -/
structure Ends where
  nx : St → Hp → Prop
  rt : VK
  bk : St → Hp → Prop := fun _ _ => False
  ct : St → Hp → Prop := fun _ _ => False
abbrev TS := Ends → St → Hp → Prop

def EP (X : Cx) (pins : List (Addr × Obj)) (σ : St) (Q : VK) (u : Value) (s' : Shared) : Prop := ∃ v H', Inv X pins σ H' s' ∧ RelV v u ∧ Q v H'
def TP (X : Cx) (pins : List (Addr × Obj)) (σ : St) (Q : Bool → Hp → Prop) (b : Bool) (s' : Shared) : Prop := ∃ H', Inv X pins σ H' s' ∧ Q b H'
def AP (X : Cx) (pins : List (Addr × Obj)) (σ : St) (Q : List V → Hp → Prop) (us : List Value) (s' : Shared) : Prop := ∃ vs H', Inv X pins σ H' s' ∧ Vals vs us ∧ Q vs H'
def SP (X : Cx) (pins : List (Addr × Obj)) (D : Ends) (f : Flow) (s' : Shared) : Prop :=
  match f with
  | .next => ∃ σ' H', Inv X pins σ' H' s' ∧ D.nx σ' H'
  | .brk => ∃ σ' H', Inv X pins σ' H' s' ∧ D.bk σ' H'
  | .cont => ∃ σ' H', Inv X pins σ' H' s' ∧ D.ct σ' H'
  | .ret u => ∃ v σ' H', Inv X pins σ' H' s' ∧ RelV v u ∧ D.rt v H'

def PE (X : Cx) (e : Expr) (t : TE) : Prop :=
  ∀ (pins : List (Addr × Obj)) (s : Shared) (σ : St) (H : Hp) (Q : VK), Inv X pins σ H s → t σ H Q → wpAny (model X.prog X.w) X.A (eval e X.env) (EP X pins σ Q) X.xe s
def PT (X : Cx) (e : Expr) (t : TT) : Prop :=
  ∀ (pins : List (Addr × Obj)) (s : Shared) (σ : St) (H : Hp) (Q : Bool → Hp → Prop), Inv X pins σ H s → t σ H Q → wpAny (model X.prog X.w) X.A (isTrue e X.env (eval e X.env)) (TP X pins σ Q) X.xe s
/-- a test whatever its 'whole' is (and, or) -/
def PW (X : Cx) (e : Expr) (t : TT) : Prop :=
  ∀ (whole : Sem Value) (pins : List (Addr × Obj)) (s : Shared) (σ : St) (H : Hp) (Q : Bool → Hp → Prop), Inv X pins σ H s → t σ H Q → wpAny (model X.prog X.w) X.A (isTrue e X.env whole) (TP X pins σ Q) X.xe s
theorem PW.pt {X : Cx} {e : Expr} {t : TT} (h : PW X e t) : PT X e t := h _
/-- an argument list (no star), from the left -/
def PA (X : Cx) (es : List Expr) (t : TA) : Prop :=
  ∀ (pos : Pos) (pins : List (Addr × Obj)) (s : Shared) (σ : St) (H : Hp) (Q : List V → Hp → Prop), Inv X pins σ H s → t σ H Q → wpAny (model X.prog X.w) X.A (spliced (backTo pos (starEach es X.env))) (AP X pins σ Q) X.xe s
def PS (X : Cx) (st : Stmt) (t : TS) : Prop :=
  ∀ (pins : List (Addr × Obj)) (s : Shared) (σ : St) (H : Hp) (D : Ends), Inv X pins σ H s → t D σ H → wpAny (model X.prog X.w) X.A (exec st X.env) (SP X pins D) X.xe s
def PSs (X : Cx) (st : List Stmt) (t : TS) : Prop :=
  ∀ (pins : List (Addr × Obj)) (s : Shared) (σ : St) (H : Hp) (D : Ends), Inv X pins σ H s → t D σ H → wpAny (model X.prog X.w) X.A (execs st X.env) (SP X pins D) X.xe s
/-- weaken the end -/
theorem thn {α : Type} {t : Sem α} {Q Q' : α → Shared → Prop} {M : Model} {A : Around} {E : Value → Shared → Prop} {s : Shared} (h : wpAny M A t Q E s) (hQ : ∀ a s, Q a s → Q' a s) : wpAny M A t Q' E s := wpAny_mono h hQ fun _ _ x => x
end L2

namespace L2
open PySem PySem.Spec PyProof.Rows
section
variable {X : Cx}

/-! ### names and constants -/
def tVar (i : Nat) : TE := fun σ H Q => ∃ v, σ[i]? = some (some v) ∧ Q v H
def tC (v : V) : TE := fun _ H Q => Q v H
theorem pe_var {i : Nat} {x : Str} {pos : Pos} (hN : X.N[i]? = some x) (hv : Vis X.env.scope x) (hd : (x == ("__debug__" : Str)) = false := by decide) (hcd : (x == ("__classdict__" : Str)) = false := by decide) : PE X (.Name x pos) (tVar i) := by
  intro pins s σ H Q I h
  obtain ⟨v, e, h⟩ := h
  obtain ⟨m, hn, hl⟩ := I.loc
  obtain ⟨u, r, l⟩ := hl i x v hN e hv
  have fin : EP X pins σ Q u s := ⟨v, H, I, r, h⟩
  rcases l with ⟨hk, hm⟩ | ⟨hk, c, hc, hcell⟩
  · exact wpAny_Name (wpAny_loadName_local I.ok.kind hk hn hm fin) hd
  · rcases hk with hk | hk
    · exact wpAny_Name (wpAny_loadName_cell I.ok.kind hk hc hcell fin) hd
    · exact wpAny_Name (wpAny_loadName_free I.ok.kind hk hc hcell fin hcd) hd
theorem pe_int {i j pos} : PE X (.Constant (.int i) j pos) (tC (.int i)) := fun _ _ _ H _ I h => wpAny_Constant_int ⟨.int i, H, I.tok _, ⟨_, rfl⟩, h⟩
theorem pe_bl {b j pos} : PE X (.Constant (.bool b) j pos) (tC (.bl b)) := fun _ _ _ H _ I h => Constant_bool ⟨.bl b, H, I, rfl, h⟩
theorem pe_non {j pos} : PE X (.Constant .none j pos) (tC .non) := fun _ _ _ H _ I h => Constant_none ⟨.non, H, I, rfl, h⟩
theorem pe_str {x j pos} : PE X (.Constant (.str x) j pos) (tC (.str x)) := fun _ _ _ H _ I h => Calls.Constant_str ⟨.str x, H, I.tok _, ⟨_, rfl⟩, h⟩

/-- a global name of the def -/
def Gl (X : Cx) (x : Str) : Prop := X.env.kindOf x = some .globalImplicit
theorem ld_glob {E : Value → Shared → Prop} {pins : List (Addr × Obj)} {s : Shared} {σ : St} {H : Hp} {x : Str} {u : Value} {pos : Pos} {Q : Value → Shared → Prop} (I : Inv X pins σ H s) (hg : Gl X x) (hm : X.mg x = some u) (h : Q u s)
    (hd : (x == ("__debug__" : Str)) = false := by decide) : wpAny (model X.prog X.w) X.A (eval (.Name x pos) X.env) Q E s :=
  Calls.Name_function_global I.ok.kind hg (Calls.loadGlobal_global (by rw [I.ok.glob]; exact I.mod.glob.keeps I.bk) hm h) hd
theorem ld_blt {E : Value → Shared → Prop} {pins : List (Addr × Obj)} {s : Shared} {σ : St} {H : Hp} {x : Str} {u : Value} {pos : Pos} {Q : Value → Shared → Prop} (I : Inv X pins σ H s) (hg : Gl X x) (hm : X.mg x = none) (hv : bootBuiltins x = some u) (h : Q u s)
    (hn : x ≠ "__name__" := by decide) (hd : (x == ("__debug__" : Str)) = false := by decide) : wpAny (model X.prog X.w) X.A (eval (.Name x pos) X.env) Q E s := by
  obtain ⟨mb, h1, h2⟩ := I.mod.blt
  exact Calls.Name_function_global I.ok.kind hg (Calls.loadGlobal_builtin (by rw [I.ok.glob]; exact I.mod.glob.keeps I.bk) hm (by rw [I.ok.blt]; exact h1.keeps I.bk) ((h2 x hn).trans hv) h) hd
/-- a module's constant, a class, a function, as a value -/
theorem pe_glob {x : Str} {v : V} {u : Value} {pos : Pos} (hg : Gl X x) (hm : X.mg x = some u) (r : RelV v u) (hd : (x == ("__debug__" : Str)) = false := by decide) : PE X (.Name x pos) (tC v) :=
  fun _ _ _ H _ I h => ld_glob I hg hm ⟨v, H, I, r, h⟩ hd
theorem pe_bltn {x : Str} {v : V} {u : Value} {pos : Pos} (hg : Gl X x) (hm : X.mg x = none) (hv : bootBuiltins x = some u) (r : RelV v u) (hn : x ≠ "__name__" := by decide) (hd : (x == ("__debug__" : Str)) = false := by decide) : PE X (.Name x pos) (tC v) :=
  fun _ _ _ H _ I h => ld_blt I hg hm hv ⟨v, H, I, r, h⟩ hn hd

/-! ### arithmetic -/
variable {a b : Expr} {ta tb : TE} {pos : Pos}
/-! ### comparisons -/
/-- a comparison as a value, as a test -/
def tB (t : TE) : TT := fun σ H Q => t σ H fun x H1 => ∃ c, x = .bl c ∧ Q c H1
/-- an expression whose value is a bool, as a test -/
theorem pt_val {e : Expr} {t : TE} (h : PE X e t) (he : ∀ whole, isTrue e X.env whole = (do let v ← whole; standAt e.pos; holding [v] (truthy v)) := by intro _; rfl) : PT X e (tB t) := by
  intro pins s σ H Q I hw
  refine isTrue_plain (thn (h pins s σ H _ I hw) fun v s1 ⟨x, H1, I1, r1, q1⟩ => ?_) (he _)
  obtain ⟨d, rfl, q⟩ := q1
  cases r1
  exact wpAny_truthy_bool ⟨H1, I1, q⟩

/-! ### and, or, not -/
variable {tA tB' : TT} {rest : List Expr}
def tAnd (t u : TT) : TT := fun σ H Q => t σ H fun c H1 => if c = true then u σ H1 Q else Q false H1
def tOr (t u : TT) : TT := fun σ H Q => t σ H fun c H1 => if c = true then Q true H1 else u σ H1 Q
def tNot (t : TT) : TT := fun σ H Q => t σ H fun c H1 => Q (!c) H1
theorem pw_and1 (ha : PT X a tA) : PW X (.BoolOp .And [a] pos) tA := by
  intro wh pins s σ H Q I h
  refine isTrue_and (thn (ha pins s σ H Q I h) fun c s1 e => ?_)
  cases c with
  | true => exact isTrue_and_nil e
  | false => exact e
theorem pw_or1 (ha : PT X a tA) : PW X (.BoolOp .Or [a] pos) tA := by
  intro wh pins s σ H Q I h
  refine isTrue_or (thn (ha pins s σ H Q I h) fun c s1 e => ?_)
  cases c with
  | false => exact isTrue_or_nil e
  | true => exact e
theorem pw_and (ha : PT X a tA) (hb : PW X (.BoolOp .And (b :: rest) pos) tB') : PW X (.BoolOp .And (a :: b :: rest) pos) (tAnd tA tB') := by
  intro wh pins s σ H Q I h
  refine isTrue_and (thn (ha pins s σ H _ I h) fun c s1 ⟨H1, I1, q1⟩ => ?_)
  cases c with
  | true => exact hb wh pins s1 σ H1 Q I1 q1
  | false => exact ⟨H1, I1, q1⟩
theorem pw_or (ha : PT X a tA) (hb : PW X (.BoolOp .Or (b :: rest) pos) tB') : PW X (.BoolOp .Or (a :: b :: rest) pos) (tOr tA tB') := by
  intro wh pins s σ H Q I h
  refine isTrue_or (thn (ha pins s σ H _ I h) fun c s1 ⟨H1, I1, q1⟩ => ?_)
  cases c with
  | true => exact ⟨H1, I1, q1⟩
  | false => exact hb wh pins s1 σ H1 Q I1 q1
theorem pt_not (ha : PT X a tA) : PT X (.UnaryOp .Not a pos) (tNot tA) := by
  intro pins s σ H Q I h
  exact isTrue_not (ha pins s σ H (fun c H1 => Q (!c) H1) I h)
/-- .. as values (bools) -/
def tAndV (ta tb : TE) : TE := fun σ H Q => ta σ H fun x H1 => ∃ c, x = .bl c ∧ if c = true then tb σ H1 Q else Q (.bl false) H1
def tOrV (ta tb : TE) : TE := fun σ H Q => ta σ H fun x H1 => ∃ c, x = .bl c ∧ if c = true then Q (.bl true) H1 else tb σ H1 Q
def tNotV (ta : TE) : TE := fun σ H Q => ta σ H fun x H1 => ∃ c, x = .bl c ∧ Q (.bl (!c)) H1
theorem pe_one {op} {t : TE} (h : PE X a t) : PE X (.BoolOp op [a] pos) t := fun pins s σ H Q I hw => BoolOp_one (h pins s σ H Q I hw)
theorem pe_and (ha : PE X a ta) (hb : PE X (.BoolOp .And (b :: rest) pos) tb) : PE X (.BoolOp .And (a :: b :: rest) pos) (tAndV ta tb) := by
  intro pins s σ H Q I h
  refine BoolOp_and (thn (ha pins s σ H _ I h) fun v s1 ⟨x, H1, I1, r1, q1⟩ => ?_)
  obtain ⟨c, rfl, q1⟩ := q1
  cases r1
  refine wpAny_truthy_bool ?_
  cases c with
  | true => exact hb pins s1 σ H1 Q I1 q1
  | false => exact ⟨.bl false, H1, I1, rfl, q1⟩
theorem pe_or (ha : PE X a ta) (hb : PE X (.BoolOp .Or (b :: rest) pos) tb) : PE X (.BoolOp .Or (a :: b :: rest) pos) (tOrV ta tb) := by
  intro pins s σ H Q I h
  refine BoolOp_or (thn (ha pins s σ H _ I h) fun v s1 ⟨x, H1, I1, r1, q1⟩ => ?_)
  obtain ⟨c, rfl, q1⟩ := q1
  cases r1
  refine wpAny_truthy_bool ?_
  cases c with
  | false => exact hb pins s1 σ H1 Q I1 q1
  | true => exact ⟨.bl true, H1, I1, rfl, q1⟩
theorem pe_not (ha : PE X a ta) : PE X (.UnaryOp .Not a pos) (tNotV ta) := by
  intro pins s σ H Q I h
  refine UnaryOp_ (thn (ha pins s σ H _ I h) fun v s1 ⟨x, H1, I1, r1, q1⟩ => ?_)
  obtain ⟨c, rfl, q1⟩ := q1
  cases r1
  exact not_of (wpAny_truthy_bool ⟨.bl (!c), H1, I1, rfl, q1⟩)
/-- a if t else b -/
def tIf (t : TT) (ta tb : TE) : TE := fun σ H Q => t σ H fun c H1 => if c = true then ta σ H1 Q else tb σ H1 Q
theorem pe_ifExp {c : Expr} (hc : PT X c tA) (ha : PE X a ta) (hb : PE X b tb) : PE X (.IfExp c a b pos) (tIf tA ta tb) := by
  intro pins s σ H Q I h
  refine wpAny_IfExp (thn (hc pins s σ H _ I h) fun d s1 ⟨H1, I1, q1⟩ => ?_)
  cases d with
  | true => exact ha pins s1 σ H1 Q I1 q1
  | false => exact hb pins s1 σ H1 Q I1 q1
end
end L2

namespace L2
open PySem PySem.Spec PyProof.Rows

/-! ### a list, a tuple that is read: tracked, frozen, or an object of the module -/
def SqL (K : PySem.W.Frag) (H : Hp) (a : Addr) (xs : List V) : Prop :=
  Rd H a (.lst xs) ∨
    ∃ (o : Obj) (its : Array Value) (n : Nat), K.lookup a = some o ∧ o.cls = .type "list" ∧ o.dict = none ∧ o.data = .seq its n ∧ its.size ≤ sizeLine ∧ Vals xs its.toList
def SqT (K : PySem.W.Frag) (H : Hp) (a : Addr) (xs : List V) : Prop :=
  Rd H a (.tup xs) ∨
    ∃ (o : Obj) (its : Array Value) (n : Nat), K.lookup a = some o ∧ o.cls = .type "tuple" ∧ o.data = .seq its n ∧ its.size ≤ sizeLine ∧ Vals xs its.toList
def absV : Value → Option V
  | .none => some .non
  | .bool b => some (.bl b)
  | .int i _ => some (.int i)
  | .str x _ => some (.str x)
  | .bytes b _ => some (.byt b)
  | .float b _ => some (.flt b)
  | .ref a => some (.ref a)
  | .type n => some (.ty n)
  | _ => none
theorem RelV.abs {x : V} {u : Value} (r : RelV x u) : absV u = some x := by
  cases x with
  | non => cases r; rfl
  | bl _ => cases r; rfl
  | int _ => obtain ⟨t, rfl⟩ := r; rfl
  | str _ => obtain ⟨t, rfl⟩ := r; rfl
  | byt _ => obtain ⟨t, rfl⟩ := r; rfl
  | flt _ => obtain ⟨t, rfl⟩ := r; rfl
  | ref _ => cases r; rfl
  | ty _ => cases r; rfl
theorem RelV.inj {x y : V} {u : Value} (r : RelV x u) (q : RelV y u) : x = y := Option.some.inj (r.abs.symm.trans q.abs)
theorem Vals.inj : ∀ {xs ys : List V} {us : List Value}, Vals xs us → Vals ys us → xs = ys
  | _, _, _, .nil, .nil => rfl
  | _, _, _, .cons r t, .cons r' t' => by rw [r.inj r', Vals.inj t t']
section
variable {X : Cx} {pins : List (Addr × Obj)} {σ : St} {H : Hp} {s : Shared} {a : Addr} {xs ys : List V}
theorem SqL.of {K : PySem.W.Frag} (h : H a = some (.lst xs)) : SqL K H a xs := .inl (.inl h)
theorem SqT.of {K : PySem.W.Frag} (h : H a = some (.tup xs)) : SqT K H a xs := .inl (.inl h)
theorem Inv.list (I : Inv X pins σ H s) (h : SqL X.K H a xs) : ∃ its : List Value, Vals xs its ∧ PlainL s.heap a its.toArray ∧ xs.length ≤ sizeLine := by
  rcases h with h | ⟨o, its, n, hk, hc, hd, hs, hz, r⟩
  · obtain ⟨z, its, n, r, e⟩ := h.ok I.hok
    exact ⟨its, r, ⟨_, n, e, rfl, rfl, rfl⟩, z⟩
  · refine ⟨its.toList, r, ⟨o, n, I.kIn a o hk, hc, hd, by simpa using hs⟩, ?_⟩
    have e := r.length
    simp only [Array.length_toList] at e
    omega
theorem Inv.tuple (I : Inv X pins σ H s) (h : SqT X.K H a xs) : ∃ its : List Value, Vals xs its ∧ IsTup s.heap a its.toArray ∧ xs.length ≤ sizeLine := by
  rcases h with h | ⟨o, its, n, hk, hc, hs, hz, r⟩
  · obtain ⟨z, its, r, p⟩ := h.ok I.hok
    exact ⟨its, r, p, z⟩
  · refine ⟨its.toList, r, ⟨o, I.kIn a o hk, hc, n, by simpa using hs⟩, ?_⟩
    have e := r.length
    simp only [Array.length_toList] at e
    omega
theorem Inv.list_inj (I : Inv X pins σ H s) (h : SqL X.K H a xs) (h' : SqL X.K H a ys) : xs = ys := by
  obtain ⟨its, r, ⟨o, n, e, _, _, d⟩, _⟩ := I.list h
  obtain ⟨its', r', ⟨o', n', e', _, _, d'⟩, _⟩ := I.list h'
  rw [e] at e'; cases e'
  rw [d] at d'
  injection d' with d1 _
  have : its = its' := by simpa using congrArg Array.toList d1
  subst this
  exact r.inj r'
theorem Inv.tuple_inj (I : Inv X pins σ H s) (h : SqT X.K H a xs) (h' : SqT X.K H a ys) : xs = ys := by
  obtain ⟨its, r, ⟨o, e, _, n, d⟩, _⟩ := I.tuple h
  obtain ⟨its', r', ⟨o', e', _, n', d'⟩, _⟩ := I.tuple h'
  rw [e] at e'; cases e'
  rw [d] at d'
  injection d' with d1 _
  have : its = its' := by simpa using congrArg Array.toList d1
  subst this
  exact r.inj r'
end

/-! ### another wish about exceptions -/
abbrev Cx.wish (X : Cx) (E : Value → Shared → Prop) : Cx := { X with xe := E }
/-- no exception leaves -/
abbrev Cx.nox (X : Cx) : Cx := X.wish fun _ _ => False
theorem Cx.Ok.wish {X : Cx} (ok : X.Ok) (E : Value → Shared → Prop) : (X.wish E).Ok :=
  ⟨ok.mod, ok.kind, ok.glob, ok.blt, ok.above, ok.inj, ok.has, ok.cab, ok.hd, ok.frames, ok.stk, ok.exf, ok.bs, ok.bsz, ok.noex, ok.exfs, ok.funs, ok.frf⟩
theorem Cx.Ok.unwish {X : Cx} {E : Value → Shared → Prop} (ok : (X.wish E).Ok) : X.Ok :=
  ⟨ok.mod, ok.kind, ok.glob, ok.blt, ok.above, ok.inj, ok.has, ok.cab, ok.hd, ok.frames, ok.stk, ok.exf, ok.bs, ok.bsz, ok.noex, ok.exfs, ok.funs, ok.frf⟩
section
variable {X : Cx} {pins : List (Addr × Obj)} {σ : St} {H : Hp} {s : Shared} {E : Value → Shared → Prop}
theorem Inv.wish (I : Inv X pins σ H s) (E : Value → Shared → Prop) : Inv (X.wish E) pins σ H s := ⟨I.ok.wish E, I.os, I.bare, I.base, I.loc, I.cell, I.free, I.freeC, I.pin, I.hok, I.len⟩
theorem Inv.unwish (I : Inv (X.wish E) pins σ H s) : Inv X pins σ H s := ⟨I.ok.unwish, I.os, I.bare, I.base, I.loc, I.cell, I.free, I.freeC, I.pin, I.hok, I.len⟩
theorem SP.unwish {D : Ends} {f : Flow} {s' : Shared} (h : SP (X.wish E) pins D f s') : SP X pins D f s' := by
  cases f with
  | next => obtain ⟨σ', H', I, q⟩ := h; exact ⟨σ', H', I.unwish, q⟩
  | brk => obtain ⟨σ', H', I, q⟩ := h; exact ⟨σ', H', I.unwish, q⟩
  | cont => obtain ⟨σ', H', I, q⟩ := h; exact ⟨σ', H', I.unwish, q⟩
  | ret u => obtain ⟨v, σ', H', I, r, q⟩ := h; exact ⟨v, σ', H', I.unwish, r, q⟩
theorem PSs.nox {st : List Stmt} {t : TS} (h : PSs X.nox st t) : PSs X st t := fun pins s σ H D I hw =>
  wpAny_mono (h pins s σ H D (I.wish _) hw) (fun _ _ q => q.unwish) fun _ _ z => False.elim z
end

/-! ### blocks and small statements -/
section
variable {X : Cx} {st : Stmt} {rest : List Stmt} {t u : TS} {e : Expr} {te : TE} {pos : Pos}
def tNext : TS := fun D σ H => D.nx σ H
def tSeq (t u : TS) : TS := fun D σ H => t { D with nx := u D } σ H
theorem pss_nil : PSs X [] tNext := fun _ _ σ H _ I h => wpAny_execs_nil ⟨σ, H, I, h⟩
theorem pss_cons (h1 : PS X st t) (h2 : PSs X rest u) : PSs X (st :: rest) (tSeq t u) := by
  intro pins s σ H D I h
  refine wpAny_execs_cons (thn (h1 pins s σ H { D with nx := u D } I h) fun f s1 q => ?_)
  cases f with
  | next =>
    obtain ⟨σ', H', I', q⟩ := q
    exact h2 pins s1 σ' H' D I' q
  | ret v => exact q
  | brk => exact q
  | cont => exact q
theorem pss_one (h1 : PS X st t) : PSs X [st] t := by
  intro pins s σ H D I h
  refine wpAny_execs_cons (thn (h1 pins s σ H D I h) fun f s1 q => ?_)
  cases f with
  | next => exact wpAny_execs_nil q
  | ret v => exact q
  | brk => exact q
  | cont => exact q
/-- in a def's body nothing is shown -/
theorem Inv.quiet {pins : List (Addr × Obj)} {σ : St} {H : Hp} {s : Shared} (I : Inv X pins σ H s) : interactive X.env = false := by simp [interactive, I.ok.kind]
/-- an expression whose value is dropped -/
def tDrop (te : TE) : TS := fun D σ H => te σ H fun _ H1 => D.nx σ H1
theorem ps_expr (he : PE X e te) (hs : swapsWith e none pos.line X.env = pure false := by rfl) : PS X (.Expr e pos) (tDrop te) := by
  intro pins s σ H D I h
  exact wpAny_Expr_any (thn (he pins s σ H _ I h) fun v s1 ⟨x, H1, I1, r1, q1⟩ => ⟨σ, H1, I1, q1⟩) I.quiet hs
def tRet (te : TE) : TS := fun D σ H => te σ H D.rt
theorem ps_ret (he : PE X e te) : PS X (.Return (some e) pos) (tRet te) := by
  intro pins s σ H D I h
  exact wpAny_Return_some (thn (he pins s σ H _ I h) fun v s1 ⟨x, H1, I1, r1, q1⟩ => ⟨x, σ, H1, I1, r1, q1⟩)
def tIfS (c : TT) (t u : TS) : TS := fun D σ H => c σ H fun b H1 => if b = true then t D σ H1 else u D σ H1
theorem ps_if {c : Expr} {a b : List Stmt} {tc : TT} (hc : PT X c tc) (ha : PSs X a t) (hb : PSs X b u) : PS X (.If c a b pos) (tIfS tc t u) := by
  intro pins s σ H D I h
  refine wpAny_If (thn (hc pins s σ H _ I h) fun d s1 ⟨H1, I1, q1⟩ => ?_)
  cases d with
  | true => exact ha pins s1 σ H1 D I1 q1
  | false => exact hb pins s1 σ H1 D I1 q1
end

/-! ### targets -/
abbrev TG := V → St → Hp → (St → Hp → Prop) → Prop
abbrev TGs := List V → St → Hp → (St → Hp → Prop) → Prop
def PG (X : Cx) (target : Expr) (t : TG) : Prop :=
  ∀ (pins : List (Addr × Obj)) (s : Shared) (σ : St) (H : Hp) (v : V) (u : Value) (Q : St → Hp → Prop), Inv X pins σ H s → RelV v u → t v σ H Q →
    wpAny (model X.prog X.w) X.A (assign target X.env u) (fun _ s' => ∃ σ' H', Inv X pins σ' H' s' ∧ Q σ' H') X.xe s
/-- several targets, one after another -/
def PGs (X : Cx) (ts : List Expr) (t : TGs) : Prop :=
  ∀ (pins : List (Addr × Obj)) (s : Shared) (σ : St) (H : Hp) (vs : List V) (us : List Value) (Q : St → Hp → Prop), Inv X pins σ H s → Vals vs us → t vs σ H Q →
    wpAny (model X.prog X.w) X.A (assignInOrder ((assignEach ts X.env).map (·.2)) us) (fun _ s' => ∃ σ' H', Inv X pins σ' H' s' ∧ Q σ' H') X.xe s
section
variable {X : Cx} {pos : Pos}
def gName (i : Nat) : TG := fun v σ H Q => Q (σ.set i (some v)) H
theorem pg_name {i : Nat} {x : Str} (hN : X.N.Nodup) (hi : X.N[i]? = some x) (hx : Loc X.env.scope x) (hf : X.fn x = true ∨ X.env.scope.names.lookup x = some .local := by first | exact .inl rfl | exact .inr rfl | assumption) : PG X (.Name x pos) (gName i) := by
  intro pins s σ H v u Q I r h
  exact wpAny_assign_Name (store_ok I hN hi hx r (fun s' I' => ⟨_, H, I', h⟩) hf)
def gNil : TGs := fun vs σ H Q => vs = [] ∧ Q σ H
def gCons (t : TG) (u : TGs) : TGs := fun vs σ H Q => ∃ v r, vs = v :: r ∧ t v σ H fun σ' H' => u r σ' H' Q
theorem pgs_nil : PGs X [] gNil := by
  intro pins s σ H vs us Q I r h
  obtain ⟨e, h⟩ := h
  subst e
  cases r
  exact assignInOrder_nil ⟨σ, H, I, h⟩
theorem pgs_cons {e : Expr} {es : List Expr} {t : TG} {u : TGs} (h1 : PG X e t) (h2 : PGs X es u)
    (hs : (assignEach (e :: es) X.env).map (·.2) = assign e X.env :: (assignEach es X.env).map (·.2) := by rfl) : PGs X (e :: es) (gCons t u) := by
  intro pins s σ H vs us Q I r h
  obtain ⟨v, vr, e1, h⟩ := h
  subst e1
  cases r with
  | cons r rr =>
    rw [hs]
    refine assignInOrder_cons (thn (h1 pins s σ H _ _ _ I r h) fun _ s1 ⟨σ1, H1, I1, q1⟩ => ?_)
    exact h2 pins s1 σ1 H1 _ _ Q I1 rr q1
/-- (a, b, ..) = a tuple of that length -/
def gTup (K : PySem.W.Frag) (n : Nat) (t : TGs) : TG := fun v σ H Q => ∃ a xs, v = .ref a ∧ SqT K H a xs ∧ xs.length = n ∧ t xs σ H Q
theorem pg_tup {es : List Expr} {k : Nat} {t : TGs} {n : Nat} (hc : X.calm = true) (h : PGs X es t)
    (hn : (assignEach es X.env).length = n := by rfl) (hst : (assignEach es X.env).findIdx? (·.1) = none := by rfl) : PG X (.Tuple es k pos) (gTup X.K n t) := by
  intro pins s σ H v u Q I r hw
  obtain ⟨a, xs, e1, hq, hl, hw⟩ := hw
  subst e1
  cases r
  obtain ⟨its, rv, ht, hz⟩ := I.tuple hq
  refine assign_Tuple_tuple (I.ok.hd hc) ht (by simp [hn, ← hl, rv.length]) hst fun h' hx => ?_
  have I1 : Inv X pins σ H { s with heap := h' } := I.kept (t' := s.toks) fun b o e => hx b o (Nat.ne_of_lt (Heap.lt_size e)) e
  exact h pins _ σ H xs _ Q I1 (by simpa using rv) hw
/-- target = value -/
def tAsg (te : TE) (g : TG) : TS := fun D σ H => te σ H fun x H1 => g x σ H1 D.nx
theorem ps_asg {tg e : Expr} {te : TE} {g : TG} (he : PE X e te) (hg : PG X tg g) (hs : swapsWithSole [tg] e pos.line X.env = pure false := by rfl) (hw : swappedStores [tg] e X.env = pure none := by rfl)
    (h1 : (assignEach [tg] X.env).map (·.2) = [assign tg X.env] := by rfl) : PS X (.Assign [tg] e pos) (tAsg te g) := by
  intro pins s σ H D I h
  refine wpAny_Assign_stores (thn (he pins s σ H _ I h) fun v s1 ⟨x, H1, I1, r1, q1⟩ => ?_) hs hw
  rw [h1]
  exact thn (hg pins s1 σ H1 x v _ I1 r1 q1) fun _ s2 q => q
/-- name = value -/
theorem ps_set {i : Nat} {x : Str} {e : Expr} {te : TE} {pos' : Pos} (hN : X.N.Nodup) (hi : X.N[i]? = some x) (hx : Loc X.env.scope x) (he : PE X e te) (hs : swapsWith e (some (.Name x pos')) pos.line X.env = pure false := by rfl) (hf : X.fn x = true ∨ X.env.scope.names.lookup x = some .local := by first | exact .inl rfl | exact .inr rfl | assumption) :
    PS X (.Assign [.Name x pos'] e pos) (tAsg te (gName i)) := by
  intro pins s σ H D I h
  refine wpAny_Assign_Name (thn (he pins s σ H _ I h) fun v s1 ⟨y, H1, I1, r1, q1⟩ => ?_) hs
  exact store_ok I1 hN hi hx r1 (fun s2 I2 => ⟨_, H1, I2, q1⟩) hf
end

/-! ### while -/
section
variable {X : Cx} {pos : Pos}
end

/-! ### what a loop or a comprehension walks -/
/-- at turn i: it yields x (the heap may grow), or it stops -/
structure It where
  go : Nat → Hp → Prop
  yld : Nat → Hp → V → Hp → Prop
  stop : Nat → Hp → Prop
/-- the iterator's own objects may turn: they are not the frame's, not pinned, younger than the entry (or a comprehension's own) -/
def FpOk (X : Cx) (pins : List (Addr × Obj)) (H : Hp) (b : Addr) : Prop :=
  H b = none ∧ b ≠ X.env.locals ∧ b ∉ X.fs ∧ (b ∈ X.ex ∨ X.s₀.heap.objs.size ≤ b) ∧ (∀ x c, X.env.cells.lookup x = some c → c ≠ b) ∧ ∀ p ∈ X.pn ++ pins, p.1 ≠ b
theorem Inv.fpOk {X : Cx} {pins : List (Addr × Obj)} {σ : St} {H H' : Hp} {s : Shared} {b : Addr} (I : Inv X pins σ H s) (hb : s.heap.objs.size ≤ b) (hn : H' b = none) : FpOk X pins H' b := by
  refine ⟨hn, Nat.ne_of_gt (Nat.lt_of_lt_of_le I.lt hb), I.nofs hb, .inr (Nat.le_trans I.sz hb), fun x c e z => ?_, fun p hp z => ?_⟩
  · obtain ⟨v, q⟩ := I.cell x c e
    exact absurd (Nat.lt_of_lt_of_le q.lt (by rw [z]; exact hb)) (Nat.lt_irrefl _)
  · exact absurd (Nat.lt_of_lt_of_le (Heap.lt_size (I.pin p hp).1) (by rw [z]; exact hb)) (Nat.lt_irrefl _)
structure Turn (P : Program) (w : World) (K : PySem.W.Frag) (tg : Expr) (J : It) (fp : List Addr) (it : Addr) (tn : Nat → Heap → Prop) : Prop where
  mem : it ∈ fp
  obj : ∀ i h, tn i h → ∀ b ∈ fp, ∃ o, h.get? b = some o ∧ ∀ v, o.data ≠ .cell v
  keep : ∀ i h h', tn i h → (∀ b ∈ fp, ∀ o, h.get? b = some o → h'.get? b = some o) → tn i h'
  item : ∀ (X : Cx), X.prog = P → X.w = w → X.K = K → X.calm = true → ∀ (i : Nat) (pins : List (Addr × Obj)) (s : Shared) (σ : St) (H : Hp) (E : Value → Shared → Prop), Inv X pins σ H s → (∀ b ∈ fp, FpOk X pins H b) → tn i s.heap → J.go i H →
    wpAny (model P w) X.A (pyNext (.ref it)) (fun r s1 => ∃ u, r = some u ∧
      wpAny (model P w) X.A (letOwnedTupleGo tg (.ref it) u) (fun _ s2 => ∃ x H', Inv X pins σ H' s2 ∧ RelV x u ∧ J.yld i H x H' ∧ tn (i + 1) s2.heap ∧ ∀ b ∈ fp, H' b = none) E s1) E s
  done : ∀ (X : Cx), X.prog = P → X.w = w → X.K = K → X.calm = true → ∀ (i : Nat) (pins : List (Addr × Obj)) (s : Shared) (σ : St) (H : Hp) (E : Value → Shared → Prop), Inv X pins σ H s → (∀ b ∈ fp, FpOk X pins H b) → tn i s.heap → J.stop i H →
    wpAny (model P w) X.A (pyNext (.ref it)) (fun r s1 => r = none ∧ Inv X pins σ H s1) E s
  self : ∀ (A : Around) (i : Nat) (s : Shared) (Q : Value → Shared → Prop) (E : Value → Shared → Prop), tn i s.heap → Q (.ref it) s → wpAny (model P w) A (pyIter (.ref it)) Q E s
abbrev TI := St → Hp → (It → Hp → Prop) → Prop
/-- an iterator has come -/
def PIE (X : Cx) (pins : List (Addr × Obj)) (σ : St) (tg : Expr) (R : It → Hp → Prop) (itv : Value) (s2 : Shared) : Prop :=
  ∃ (it : Addr) (fp : List Addr) (tn : Nat → Heap → Prop) (J : It) (H' : Hp), itv = .ref it ∧ Inv X pins σ H' s2 ∧ Turn X.prog X.w X.K tg J fp it tn ∧ tn 0 s2.heap ∧ (∀ b ∈ fp, FpOk X pins H' b) ∧ R J H'
def PI (X : Cx) (tg iter : Expr) (wi : TI) : Prop :=
  ∀ (pins : List (Addr × Obj)) (s : Shared) (σ : St) (H : Hp) (R : It → Hp → Prop), Inv X pins σ H s → wi σ H R →
    wpAny (model X.prog X.w) X.A (eval iter X.env) (fun v s1 => wpAny (model X.prog X.w) X.A (pyIter v) (PIE X pins σ tg R) X.xe s1) X.xe s

/-- the step ahead of the store is nothing for an iterator that keeps no tuple -/
theorem go_of {M : Model} {A : Around} {E : Value → Shared → Prop} {s : Shared} {tg : Expr} {it : Addr} {u : Value} {o : Obj} {n : String} {vs : Array Value} {Q : Unit → Shared → Prop} (ho : s.heap.get? it = some o) (hc : o.cls = .type n) (hd : o.data = .fields vs)
    (hn : ["enumerate", "zip", "dict_itemiterator", "dict_reverseitemiterator", "odict_iterator", "itertools.zip_longest", "itertools.pairwise"].contains n = false) (hQ : Q () s) : wpAny M A (letOwnedTupleGo tg (.ref it) u) Q E s := by
  unfold letOwnedTupleGo
  cases tg <;> first
    | exact wpAny_pure hQ
    | (cases u <;> first
        | exact wpAny_pure hQ
        | (refine wpAny_bind (wpAny_load ho ?_)
           rw [hc, hd]
           show wpAny M A (if (["enumerate", "zip", "dict_itemiterator", "dict_reverseitemiterator", "odict_iterator", "itertools.zip_longest", "itertools.pairwise"].contains n && vs[0]? == some (rawInt _)) = true then _ else _) Q E s
           rw [if_neg (by intro h; rw [hn, Bool.false_and] at h; cases h)]
           exact wpAny_pure hQ))

/-- the list at a, as it stands at each turn (a loop may append to it) -/
def Itl (K : PySem.W.Frag) (a : Addr) : It :=
  ⟨fun i H => ∃ xs x, SqL K H a xs ∧ xs[i]? = some x, fun i H x H' => H' = H ∧ ∀ xs, SqL K H a xs → xs[i]? = some x, fun i H => ∃ xs, SqL K H a xs ∧ xs.length ≤ i⟩
def Itt (K : PySem.W.Frag) (a : Addr) : It :=
  ⟨fun i H => ∃ xs x, SqT K H a xs ∧ xs[i]? = some x, fun i H x H' => H' = H ∧ ∀ xs, SqT K H a xs → xs[i]? = some x, fun i H => ∃ xs, SqT K H a xs ∧ xs.length ≤ i⟩
/-- lo, lo + 1, .. (n of them) -/
def Itr (lo : Int) (n : Nat) : It := ⟨fun i _ => i < n, fun i H x H' => H' = H ∧ x = .int (lo + i), fun i _ => n ≤ i⟩
theorem turn_list {P : Program} {w : World} {K : PySem.W.Frag} {tg : Expr} (a it : Addr) : Turn P w K tg (Itl K a) [it] it (fun i h => h.IsListIter it a i) where
  mem := by simp
  obj := fun i h st b hb => by
    have e : b = it := by simpa using hb
    subst e
    obtain ⟨o, e, c, d⟩ := st
    exact ⟨o, e, fun v z => by rw [d] at z; cases z⟩
  keep := fun i h h' st k => st.at fun o e => k it (by simp) o e
  item := by
    intro X hP hw hK hc i pins s σ H E I hf st hg
    subst hP hw hK
    obtain ⟨xs, x, hq, hx⟩ := hg
    obtain ⟨its, rv, p, hz⟩ := I.list hq
    obtain ⟨u, hu, ru⟩ := rv.get hx
    obtain ⟨f0, f1, f2, f3, f4, f5⟩ := hf it (by simp)
    refine wpAny_pyNext_list_item st p.isList (x := u) (by simpa using hu) fun h' st' sb => ?_
    have I1 : Inv X pins σ H { s with heap := h' } := I.turned (t' := s.toks) (fun b o hb e => (sb.2 b hb).trans e) f0 f1 f3 f4 f5
    obtain ⟨o, e, c, d⟩ := id st'
    exact ⟨u, rfl, go_of (s := { s with heap := h' }) e c d (by decide) ⟨x, H, I1, ru, ⟨rfl, fun ys hy => by rw [I.list_inj hy hq]; exact hx⟩, st', fun b hb => (hf b hb).1⟩⟩
  done := by
    intro X hP hw hK hc i pins s σ H E I hf st hg
    subst hP hw hK
    obtain ⟨xs, hq, hx⟩ := hg
    obtain ⟨its, rv, p, hz⟩ := I.list hq
    obtain ⟨f0, f1, f2, f3, f4, f5⟩ := hf it (by simp)
    have hl := rv.length
    exact wpAny_pyNext_list_end (I.ok.hd hc) st p.isList (by simp; omega) fun h' eb => ⟨rfl, I.turned (t' := s.toks) (fun b o hb e => eb b o hb e) f0 f1 f3 f4 f5⟩
  self := fun _ _ _ _ _ st h => wpAny_pyIter_listiter st h
theorem turn_tuple {P : Program} {w : World} {K : PySem.W.Frag} {tg : Expr} (a it : Addr) : Turn P w K tg (Itt K a) [it] it (fun i h => h.IsTupleIter it a i) where
  mem := by simp
  obj := fun i h st b hb => by
    have e : b = it := by simpa using hb
    subst e
    obtain ⟨o, e, c, d⟩ := st
    exact ⟨o, e, fun v z => by rw [d] at z; cases z⟩
  keep := fun i h h' st k => st.at fun o e => k it (by simp) o e
  item := by
    intro X hP hw hK hc i pins s σ H E I hf st hg
    subst hP hw hK
    obtain ⟨xs, x, hq, hx⟩ := hg
    obtain ⟨its, rv, p, hz⟩ := I.tuple hq
    obtain ⟨u, hu, ru⟩ := rv.get hx
    obtain ⟨f0, f1, f2, f3, f4, f5⟩ := hf it (by simp)
    refine wpAny_pyNext_tuple_item st (show s.heap.IsTuple a its.toArray from p) (x := u) (by simpa using hu) fun h' st' sb => ?_
    have I1 : Inv X pins σ H { s with heap := h' } := I.turned (t' := s.toks) (fun b o hb e => (sb.2 b hb).trans e) f0 f1 f3 f4 f5
    obtain ⟨o, e, c, d⟩ := id st'
    exact ⟨u, rfl, go_of (s := { s with heap := h' }) e c d (by decide) ⟨x, H, I1, ru, ⟨rfl, fun ys hy => by rw [I.tuple_inj hy hq]; exact hx⟩, st', fun b hb => (hf b hb).1⟩⟩
  done := by
    intro X hP hw hK hc i pins s σ H E I hf st hg
    subst hP hw hK
    obtain ⟨xs, hq, hx⟩ := hg
    obtain ⟨its, rv, p, hz⟩ := I.tuple hq
    obtain ⟨f0, f1, f2, f3, f4, f5⟩ := hf it (by simp)
    have hl := rv.length
    exact wpAny_pyNext_tuple_end (I.ok.hd hc) st (show s.heap.IsTuple a its.toArray from p) (by simp; omega) fun h' eb => ⟨rfl, I.turned (t' := s.toks) (fun b o hb e => eb b o hb e) f0 f1 f3 f4 f5⟩
  self := fun _ _ _ _ _ st h => wpAny_pyIter_tupleiter st h
theorem turn_range {P : Program} {w : World} {K : PySem.W.Frag} {tg : Expr} (it : Addr) (lo : Int) (n : Nat) : Turn P w K tg (Itr lo n) [it] it (fun i h => IsRangeIter h it (lo + (i : Nat) * 1) ((n : Int) - (i : Nat)) 1) where
  mem := by simp
  obj := fun i h st b hb => by
    have e : b = it := by simpa using hb
    subst e
    exact ⟨_, st, fun v z => by
      have z' : Data.fields _ = Data.cell v := z
      cases z'⟩
  keep := fun i h h' st k => k it (by simp) _ st
  item := by
    intro X hP hw hK hc i pins s σ H E I hf st hg
    subst hP hw hK
    obtain ⟨f0, f1, f2, f3, f4, f5⟩ := hf it (by simp)
    have W := Walks.range (prog := X.prog) (w := X.w) (I.ok.hd hc) it lo 1 n
    refine W.item i s _ _ hg st fun v h' tk hv st' kk => ?_
    obtain ⟨t, rfl⟩ := hv
    have I1 : Inv X pins σ H { s with heap := h', toks := tk } := I.turned (fun b o hb e => kk b o (by simpa using hb) e) f0 f1 f3 f4 f5
    refine ⟨_, rfl, go_of (s := { s with heap := h', toks := tk }) (n := "range_iterator") st' rfl rfl (by decide) ⟨.int (lo + i), H, I1, ⟨t, ?_⟩, ⟨rfl, rfl⟩, st', fun b hb => (hf b hb).1⟩⟩
    rw [Int.mul_one]
  done := by
    intro X hP hw hK hc i pins s σ H E I hf st hg
    subst hP hw hK
    obtain ⟨f0, f1, f2, f3, f4, f5⟩ := hf it (by simp)
    exact wpAny_pyNext_range_end (I.ok.hd hc) st (by have : n ≤ i := hg; omega) fun h' eb => ⟨rfl, I.turned (t' := s.toks) (fun b o hb e => eb b o hb e) f0 f1 f3 f4 f5⟩
  self := fun _ _ _ _ _ st h => wpAny_pyIter_rangeiter st h
end L2

namespace L2
open PySem PySem.Spec PyProof.Rows
section
variable {X : Cx} {tg : Expr}
def iList (K : PySem.W.Frag) (tl : TE) : TI := fun σ H R => tl σ H fun x H1 => ∃ a, x = .ref a ∧ (∃ xs, SqL K H1 a xs) ∧ R (Itl K a) H1
def iTup (K : PySem.W.Frag) (tl : TE) : TI := fun σ H R => tl σ H fun x H1 => ∃ a, x = .ref a ∧ (∃ xs, SqT K H1 a xs) ∧ R (Itt K a) H1
theorem pi_list {l : Expr} {tl : TE} (hl : PE X l tl) : PI X tg l (iList X.K tl) := by
  intro pins s σ H R I h
  refine thn (hl pins s σ H _ I h) fun v s1 ⟨x, H1, I1, r1, q1⟩ => ?_
  obtain ⟨a, e, ⟨xs, hq⟩, q⟩ := q1
  subst e
  cases r1
  obtain ⟨its, rv, p, hz⟩ := I1.list hq
  refine wpAny_pyIter_list p.isList ?_
  refine ⟨s1.heap.objs.size, [s1.heap.objs.size], _, _, H1, rfl, I1.kept (t' := s1.toks) fun b o e => Heap.get?_push_of_some _ e, turn_list a _, ⟨_, Heap.get?_push_size _ rfl, rfl, rfl⟩, fun b hb => ?_, q⟩
  have e : b = s1.heap.objs.size := by simpa using hb
  subst e
  exact I1.fpOk (Nat.le_refl _) (I1.hok.fresh (Nat.le_refl _))
theorem pi_tup {l : Expr} {tl : TE} (hl : PE X l tl) : PI X tg l (iTup X.K tl) := by
  intro pins s σ H R I h
  refine thn (hl pins s σ H _ I h) fun v s1 ⟨x, H1, I1, r1, q1⟩ => ?_
  obtain ⟨a, e, ⟨xs, hq⟩, q⟩ := q1
  subst e
  cases r1
  obtain ⟨its, rv, p, hz⟩ := I1.tuple hq
  refine wpAny_pyIter_tuple (show s1.heap.IsTuple a its.toArray from p) ?_
  refine ⟨s1.heap.objs.size, [s1.heap.objs.size], _, _, H1, rfl, I1.kept (t' := s1.toks) fun b o e => Heap.get?_push_of_some _ e, turn_tuple a _, ⟨_, Heap.get?_push_size _ rfl, rfl, rfl⟩, fun b hb => ?_, q⟩
  have e : b = s1.heap.objs.size := by simpa using hb
  subst e
  exact I1.fpOk (Nat.le_refl _) (I1.hok.fresh (Nat.le_refl _))
/-- a range object just made, walked -/
theorem range_it {pins : List (Addr × Obj)} {σ : St} {H : Hp} {s : Shared} {R : It → Hp → Prop} {E : Value → Shared → Prop} {lo hi : Int} {t u v : Tok} {tk : Nat} (I : Inv X pins σ H s) (h1 : -(2 ^ 62) ≤ lo) (h2 : lo < 2 ^ 62) (h3 : -(2 ^ 62) ≤ hi) (h4 : hi < 2 ^ 62)
    (q : R (Itr lo (hi - lo).toNat) H) : wpAny (model X.prog X.w) X.A (pyIter (.ref s.heap.objs.size)) (PIE X pins σ tg R) E { s with heap := s.heap.push { cls := .type "range", data := .fields #[.int lo t, .int hi u, .int 1 v] }, toks := tk } := by
  refine wpAny_pyIter_range (IsRange.new ..) (small_one h1 h2 h3 h4) ?_
  have I1 : Inv X pins σ H { s with heap := s.heap.push { cls := .type "range", data := .fields #[.int lo t, .int hi u, .int 1 v] }, toks := tk } := I.kept fun b o e => Heap.get?_push_of_some _ e
  refine ⟨(s.heap.push { cls := .type "range", data := .fields #[.int lo t, .int hi u, .int 1 v] }).objs.size, [(s.heap.push { cls := .type "range", data := .fields #[.int lo t, .int hi u, .int 1 v] }).objs.size], _, _, H, rfl,
    I1.kept (t' := tk) fun b o e => Heap.get?_push_of_some _ e, turn_range _ lo (hi - lo).toNat, ?_, fun b hb => ?_, q⟩
  · have e1 : lo + ((0 : Nat) : Int) * 1 = lo := by simp
    have e2 : (((hi - lo).toNat : Nat) : Int) - ((0 : Nat) : Int) = Builtin.Range.rangeSize lo hi 1 := by rw [rangeSize_one]; split <;> omega
    show IsRangeIter _ _ (lo + ((0 : Nat) : Int) * 1) ((((hi - lo).toNat : Nat) : Int) - ((0 : Nat) : Int)) 1
    rw [e1, e2]
    exact Heap.get?_push_size _ rfl
  · have e : b = (s.heap.push { cls := .type "range", data := .fields #[.int lo t, .int hi u, .int 1 v] }).objs.size := by simpa using hb
    subst e
    exact I1.fpOk (Nat.le_refl _) (I1.hok.fresh (Nat.le_refl _))
def iRng1 (ta : TA) : TI := fun σ H R => ta σ H fun vs H1 => ∃ j : Int, vs = [.int j] ∧ -(2 ^ 62) ≤ j ∧ j < 2 ^ 62 ∧ R (Itr 0 j.toNat) H1
def iRng2 (ta : TA) : TI := fun σ H R => ta σ H fun vs H1 => ∃ i j : Int, vs = [.int i, .int j] ∧ (-(2 ^ 62) ≤ i ∧ i < 2 ^ 62 ∧ -(2 ^ 62) ≤ j ∧ j < 2 ^ 62) ∧ R (Itr i (j - i).toNat) H1
theorem pi_range1 {a : Expr} {ta : TA} {p pos : Pos} (hg : Gl X "range") (hm : X.mg "range" = none) (ha : PA X [a] ta) (hs : starEach [a] X.env = [(false, eval a X.env)] := by rfl) : PI X tg (.Call (.Name "range" p) [a] [] pos) (iRng1 ta) := by
  intro pins s σ H R I h
  refine Call_ (ld_blt I hg hm boot_range (PyProof.Rows.callWith_type1 (thn (ha pos pins s σ H _ I h) fun us s1 ⟨vs, H1, I1, r1, q1⟩ => ?_) hs rfl))
  obtain ⟨j, e, q1, q2, q⟩ := q1
  subst e
  cases r1 with
  | cons r rr =>
    cases rr
    obtain ⟨t, rfl⟩ := r
    exact call_range_1 (range_it I1 (by omega) (by omega) q1 q2 (by simpa using q))
theorem pi_range2 {a b : Expr} {ta : TA} {p pos : Pos} (hg : Gl X "range") (hm : X.mg "range" = none) (ha : PA X [a, b] ta) (hs : starEach [a, b] X.env = [(false, eval a X.env), (false, eval b X.env)] := by rfl) (hs2 : starEach [b] X.env = [(false, eval b X.env)] := by rfl) :
    PI X tg (.Call (.Name "range" p) [a, b] [] pos) (iRng2 ta) := by
  intro pins s σ H R I h
  refine Call_ (ld_blt I hg hm boot_range (PyProof.Rows.callWith_type1 (thn (ha pos pins s σ H _ I h) fun us s1 ⟨vs, H1, I1, r1, q1⟩ => ?_) (by rw [hs, hs2]) (by rw [hs2]; rfl)))
  obtain ⟨i, j, e, ⟨q1, q2, q3, q4⟩, q⟩ := q1
  subst e
  cases r1 with
  | cons r rr =>
    cases rr with
    | cons r' rr =>
      cases rr
      obtain ⟨t, rfl⟩ := r
      obtain ⟨t', rfl⟩ := r'
      exact call_range_2 (range_it I1 q1 q2 q3 q4 q)

/-! ### for -/
/-- W: the invariant by the turn and a measure; N: what the body is to reach -/
def tFor (wi : TI) (g : TG) (tb : TS) : TS := fun D σ H => wi σ H fun J H1 => ∃ W : Nat → Nat → St → Hp → Prop, (∃ m, W 0 m σ H1) ∧ ∀ i m σ H, W i m σ H →
  (J.stop i H ∧ D.nx σ H) ∨ (J.go i H ∧ ∃ N : St → Hp → Prop, (∀ σ' H', N σ' H' → ∃ m', m' < m ∧ W (i + 1) m' σ' H') ∧ ∀ x H', J.yld i H x H' → g x σ H' fun σ2 H2 => tb { D with nx := N, ct := N, bk := D.nx } σ2 H2)
/-- the records at fp as they stand -/
def pinsAt (fp : List Addr) (h : Heap) : List (Addr × Obj) := fp.filterMap fun b => (h.get? b).map fun o => (b, o)
theorem mem_pinsAt {fp : List Addr} {h : Heap} {b : Addr} {o : Obj} (hb : b ∈ fp) (e : h.get? b = some o) : (b, o) ∈ pinsAt fp h := List.mem_filterMap.mpr ⟨b, hb, by rw [e]; rfl⟩
theorem of_pinsAt {fp : List Addr} {h : Heap} {p : Addr × Obj} (hp : p ∈ pinsAt fp h) : p.1 ∈ fp ∧ h.get? p.1 = some p.2 := by
  obtain ⟨b, hb, e⟩ := List.mem_filterMap.mp hp
  cases q : h.get? b with
  | none => rw [q] at e; cases e
  | some o =>
    rw [q] at e
    have e' : (b, o) = p := Option.some.inj e
    subst e'
    exact ⟨hb, q⟩
theorem Inv.pinned {pins : List (Addr × Obj)} {σ : St} {H : Hp} {s : Shared} {fp : List Addr} (I : Inv X pins σ H s) (hf : ∀ b ∈ fp, FpOk X pins H b) (ho : ∀ b ∈ fp, ∃ o, s.heap.get? b = some o ∧ ∀ v, o.data ≠ .cell v) : Inv X (pins ++ pinsAt fp s.heap) σ H s :=
  I.pins_of fun p hp => (List.mem_append.mp hp).elim (fun z => I.pin p (List.mem_append_right _ z)) fun z => by
    obtain ⟨hb, e⟩ := of_pinsAt z
    obtain ⟨f0, f1, f2, _⟩ := hf p.1 hb
    obtain ⟨o, e', d⟩ := ho p.1 hb
    rw [e] at e'; cases e'
    exact ⟨e, f0, f1, f2, d⟩
theorem Inv.unpinned {pins pl : List (Addr × Obj)} {σ : St} {H : Hp} {s : Shared} (I : Inv X (pins ++ pl) σ H s) : Inv X pins σ H s := I.pins_of fun p hp => I.pin p (List.mem_append_right _ (List.mem_append_left _ hp))
theorem ps_for {iter : Expr} {body : List Stmt} {wi : TI} {g : TG} {tb : TS} {pos : Pos} (hp : PassesOwn (model X.prog X.w) X.A X.env X.xe) (hc : X.calm = true) (hi : PI X tg iter wi) (hg : PG X tg g) (hb : PSs X body tb)
    (hs : ∀ x, foldedSetIterable iter X.env x = pure x := by intro _; rfl) : PS X (.For tg iter body [] pos) (tFor wi g tb) := by
  intro pins s σ H D I h
  refine wpAny_For (thn (hi pins s σ H _ I h) fun v s1 h1 => thn h1 fun itv s2 h2 => ?_) hs
  obtain ⟨it, fp, tn, J, H2, e, I2, T, st2, f2, W, ⟨m0, w0⟩, turn⟩ := h2
  subst e
  -- what stays true of the iterator's objects through the loop
  have stat : ∀ {H' : Hp}, (∀ b ∈ fp, H' b = none) → ∀ b ∈ fp, FpOk X pins H' b := fun hn b hb => ⟨hn b hb, (f2 b hb).2⟩
  refine codeAny_forLoop_any (fun n s' => ∃ i σ' H', Inv X pins σ' H' s' ∧ tn i s'.heap ∧ (∀ b ∈ fp, H' b = none) ∧ W i n σ' H') ?_ m0 ⟨0, σ, H2, I2, st2, fun b hb => (f2 b hb).1, w0⟩
  rintro n s3 ⟨i, σ3, H3, I3, st3, fr3, w3⟩
  rcases turn i n σ3 H3 w3 with ⟨stop, qn⟩ | ⟨go, N, hN, step⟩
  · refine wpAny_passesOwn hp (thn (T.done X rfl rfl rfl hc i pins s3 σ3 H3 X.xe I3 (stat fr3) st3 stop) fun r s4 ⟨hr, I4⟩ => ?_)
    subst hr
    exact wpAny_execs_nil ⟨σ3, H3, I4, qn⟩
  · refine wpAny_passesOwn hp (thn (T.item X rfl rfl rfl hc i pins s3 σ3 H3 X.xe I3 (stat fr3) st3 go) fun r s4 ⟨u, hr, h4⟩ => ?_)
    subst hr
    refine wpAny_passesOwn hp (thn h4 fun _ s5 ⟨x, H5, I5, r5, y5, st5, fr5⟩ => ?_)
    have I5' := I5.pinned (stat fr5) (T.obj _ _ st5)
    refine wpAny_passesOwn hp (thn (hg _ s5 σ3 H5 x u _ I5' r5 (step x H5 y5)) fun _ s6 ⟨σ6, H6, I6, q6⟩ => ?_)
    refine wpAny_passesOwn hp (thn (hb _ s6 σ6 H6 _ I6 q6) fun f s7 q7 => ?_)
    have again : ∀ {σ7 : St} {H7 : Hp}, Inv X (pins ++ pinsAt fp s5.heap) σ7 H7 s7 → N σ7 H7 → ∃ m, m < n ∧ ∃ i σ' H', Inv X pins σ' H' s7 ∧ tn i s7.heap ∧ (∀ b ∈ fp, H' b = none) ∧ W i m σ' H' := fun {σ7 H7} I7 n7 => by
      obtain ⟨m', hm, w7⟩ := hN σ7 H7 n7
      refine ⟨m', hm, i + 1, σ7, H7, I7.unpinned, T.keep _ _ _ st5 fun b hb o e => (I7.pin (b, o) (List.mem_append_right _ (List.mem_append_right _ (mem_pinsAt hb e)))).1, fun b hb => ?_, w7⟩
      obtain ⟨o, e, d⟩ := T.obj _ _ st5 b hb
      exact (I7.pin (b, o) (List.mem_append_right _ (List.mem_append_right _ (mem_pinsAt hb e)))).2.1
    cases f with
    | next => obtain ⟨σ7, H7, I7, n7⟩ := q7; exact again I7 n7
    | cont => obtain ⟨σ7, H7, I7, n7⟩ := q7; exact again I7 n7
    | brk => obtain ⟨σ7, H7, I7, q7⟩ := q7; exact ⟨σ7, H7, I7.unpinned, q7⟩
    | ret v => obtain ⟨x7, σ7, H7, I7, r7, q7⟩ := q7; exact ⟨x7, σ7, H7, I7.unpinned, r7, q7⟩
end

/-! ### the forms one uses -/
/-- over a list that the body leaves as it is -/
theorem for_list {K : PySem.W.Frag} {a : Addr} {xs : List V} {g : TG} {tb : TS} {D : Ends} {σ : St} {H : Hp} (Pv : Nat → St → Hp → Prop) (h0 : Pv 0 σ H) (hl : ∀ i σ H, i ≤ xs.length → Pv i σ H → SqL K H a xs)
    (hs : ∀ i x σ H, xs[i]? = some x → Pv i σ H → g x σ H fun σ2 H2 => tb { D with nx := Pv (i + 1), ct := Pv (i + 1), bk := D.nx } σ2 H2) (hd : ∀ σ H, Pv xs.length σ H → D.nx σ H) :
    ∃ W : Nat → Nat → St → Hp → Prop, (∃ m, W 0 m σ H) ∧ ∀ i m σ H, W i m σ H →
      ((Itl K a).stop i H ∧ D.nx σ H) ∨ ((Itl K a).go i H ∧ ∃ N : St → Hp → Prop, (∀ σ' H', N σ' H' → ∃ m', m' < m ∧ W (i + 1) m' σ' H') ∧ ∀ x H', (Itl K a).yld i H x H' → g x σ H' fun σ2 H2 => tb { D with nx := N, ct := N, bk := D.nx } σ2 H2) := by
  refine ⟨fun i m σ H => m = xs.length - i ∧ i ≤ xs.length ∧ Pv i σ H, ⟨xs.length, by simp, Nat.zero_le _, h0⟩, ?_⟩
  rintro i m σ H ⟨rfl, hi, p⟩
  have q := hl i σ H hi p
  by_cases hlt : i < xs.length
  · refine .inr ⟨⟨xs, xs[i], q, by simp [hlt]⟩, Pv (i + 1), fun σ' H' p' => ⟨xs.length - (i + 1), by omega, rfl, hlt, p'⟩, fun x H' y => ?_⟩
    obtain ⟨e, y⟩ := y
    subst e
    exact hs i x σ _ (y xs q) p
  · have e : i = xs.length := by omega
    subst e
    exact .inl ⟨⟨xs, q, Nat.le_refl _⟩, hd σ H p⟩
theorem for_tup {K : PySem.W.Frag} {a : Addr} {xs : List V} {g : TG} {tb : TS} {D : Ends} {σ : St} {H : Hp} (Pv : Nat → St → Hp → Prop) (h0 : Pv 0 σ H) (hl : ∀ i σ H, i ≤ xs.length → Pv i σ H → SqT K H a xs)
    (hs : ∀ i x σ H, xs[i]? = some x → Pv i σ H → g x σ H fun σ2 H2 => tb { D with nx := Pv (i + 1), ct := Pv (i + 1), bk := D.nx } σ2 H2) (hd : ∀ σ H, Pv xs.length σ H → D.nx σ H) :
    ∃ W : Nat → Nat → St → Hp → Prop, (∃ m, W 0 m σ H) ∧ ∀ i m σ H, W i m σ H →
      ((Itt K a).stop i H ∧ D.nx σ H) ∨ ((Itt K a).go i H ∧ ∃ N : St → Hp → Prop, (∀ σ' H', N σ' H' → ∃ m', m' < m ∧ W (i + 1) m' σ' H') ∧ ∀ x H', (Itt K a).yld i H x H' → g x σ H' fun σ2 H2 => tb { D with nx := N, ct := N, bk := D.nx } σ2 H2) := by
  refine ⟨fun i m σ H => m = xs.length - i ∧ i ≤ xs.length ∧ Pv i σ H, ⟨xs.length, by simp, Nat.zero_le _, h0⟩, ?_⟩
  rintro i m σ H ⟨rfl, hi, p⟩
  have q := hl i σ H hi p
  by_cases hlt : i < xs.length
  · refine .inr ⟨⟨xs, xs[i], q, by simp [hlt]⟩, Pv (i + 1), fun σ' H' p' => ⟨xs.length - (i + 1), by omega, rfl, hlt, p'⟩, fun x H' y => ?_⟩
    obtain ⟨e, y⟩ := y
    subst e
    exact hs i x σ _ (y xs q) p
  · have e : i = xs.length := by omega
    subst e
    exact .inl ⟨⟨xs, q, Nat.le_refl _⟩, hd σ H p⟩
theorem for_range {lo : Int} {n : Nat} {g : TG} {tb : TS} {D : Ends} {σ : St} {H : Hp} (Pv : Nat → St → Hp → Prop) (h0 : Pv 0 σ H)
    (hs : ∀ i σ H, i < n → Pv i σ H → g (.int (lo + i)) σ H fun σ2 H2 => tb { D with nx := Pv (i + 1), ct := Pv (i + 1), bk := D.nx } σ2 H2) (hd : ∀ σ H, Pv n σ H → D.nx σ H) :
    ∃ W : Nat → Nat → St → Hp → Prop, (∃ m, W 0 m σ H) ∧ ∀ i m σ H, W i m σ H →
      ((Itr lo n).stop i H ∧ D.nx σ H) ∨ ((Itr lo n).go i H ∧ ∃ N : St → Hp → Prop, (∀ σ' H', N σ' H' → ∃ m', m' < m ∧ W (i + 1) m' σ' H') ∧ ∀ x H', (Itr lo n).yld i H x H' → g x σ H' fun σ2 H2 => tb { D with nx := N, ct := N, bk := D.nx } σ2 H2) := by
  refine ⟨fun i m σ H => m = n - i ∧ i ≤ n ∧ Pv i σ H, ⟨n, by simp, Nat.zero_le _, h0⟩, ?_⟩
  rintro i m σ H ⟨rfl, hi, p⟩
  by_cases hlt : i < n
  · refine .inr ⟨hlt, Pv (i + 1), fun σ' H' p' => ⟨n - (i + 1), by omega, rfl, hlt, p'⟩, fun x H' y => ?_⟩
    obtain ⟨e, y⟩ := y
    subst e y
    exact hs i σ _ hlt p
  · have e : i = n := by omega
    subst e
    exact .inl ⟨Nat.le_refl _, hd σ H p⟩
end L2

namespace L2
open PySem PySem.Spec PyProof.Rows

abbrev R2 := V → V → Hp → VK → Prop
/-- a two-place operation on values: f is binaryOp op, inplaceOp op or compareOp op -/
def OpR (X : Cx) (f : Value → Value → Sem Value) (r : R2) : Prop :=
  ∀ (pins : List (Addr × Obj)) (s : Shared) (σ : St) (H : Hp) (x y : V) (v u : Value) (Q : VK), Inv X pins σ H s → RelV x v → RelV y u → r x y H Q →
    wpAny (model X.prog X.w) X.A (f v u) (EP X pins σ Q) X.xe s
/-- a one-place operation -/
def UnR (X : Cx) (f : Value → Sem Value) (r : V → Hp → VK → Prop) : Prop :=
  ∀ (pins : List (Addr × Obj)) (s : Shared) (σ : St) (H : Hp) (x : V) (v : Value) (Q : VK), Inv X pins σ H s → RelV x v → r x H Q →
    wpAny (model X.prog X.w) X.A (f v) (EP X pins σ Q) X.xe s
/-- a call of a value that is known (a builtin, a type) with values -/
def CallR (X : Cx) (f : Value) (r : List V → Hp → VK → Prop) : Prop :=
  ∀ (pins : List (Addr × Obj)) (s : Shared) (σ : St) (H : Hp) (xs : List V) (us : List Value) (Q : VK), Inv X pins σ H s → Vals xs us → r xs H Q →
    wpAny (model X.prog X.w) X.A (call f us) (EP X pins σ Q) X.xe s
def tOp (r : R2) (ta tb : TE) : TE := fun σ H Q => ta σ H fun x H1 => tb σ H1 fun y H2 => r x y H2 Q
def tUn (r : V → Hp → VK → Prop) (ta : TE) : TE := fun σ H Q => ta σ H fun x H1 => r x H1 Q
/-- ints in, under C, and a value out -/
def rI (C : Int → Int → Prop) (g : Int → Int → V) : R2 := fun x y H Q => ∃ i j, x = .int i ∧ y = .int j ∧ C i j ∧ Q (g i j) H
def rI0 (g : Int → Int → V) : R2 := fun x y H Q => ∃ i j, x = .int i ∧ y = .int j ∧ Q (g i j) H
def rU (g : Int → V) : V → Hp → VK → Prop := fun x H Q => ∃ i, x = .int i ∧ Q (g i) H

section
variable {X : Cx} {a b c : Expr} {ta tb tc : TE} {pos : Pos}

theorem binT (ha : PE X a ta) (hb : PE X b tb) {pins : List (Addr × Obj)} {s : Shared} {σ : St} {H : Hp} {R : V → V → Hp → Prop} (I : Inv X pins σ H s)
    (h : ta σ H fun x H1 => tb σ H1 fun y H2 => R x y H2) {Q : Value → Shared → Prop} {f : Value → Value → Sem Value}
    (hf : ∀ v u s2 x y H2, Inv X pins σ H2 s2 → RelV x v → RelV y u → R x y H2 → wpAny (model X.prog X.w) X.A (f v u) Q X.xe s2) :
    wpAny (model X.prog X.w) X.A (eval a X.env) (fun v s₁ => wpAny (model X.prog X.w) X.A (eval b X.env) (fun u s₂ => wpAny (model X.prog X.w) X.A (f v u) Q X.xe s₂) X.xe s₁) X.xe s := by
  refine thn (ha pins s σ H _ I h) fun v s1 ⟨x, H1, I1, r1, q1⟩ => ?_
  refine thn (hb pins s1 σ H1 _ I1 q1) fun u s2 ⟨y, H2, I2, r2, q2⟩ => ?_
  exact hf v u s2 x y H2 I2 r1 r2 q2

theorem pe_op {op : Operator} {r : R2} (ho : OpR X (binaryOp op) r) (ha : PE X a ta) (hb : PE X b tb) : PE X (.BinOp a op b pos) (tOp r ta tb) := by
  intro pins s σ H Q I h
  exact wpAny_BinOp (binT ha hb I h fun v u s2 x y H2 I2 rx ry q => ho pins s2 σ H2 x y v u Q I2 rx ry q)
theorem pe_un {op : UnaryOp} {r : V → Hp → VK → Prop} (ho : UnR X (unaryOp op) r) (ha : PE X a ta) : PE X (.UnaryOp op a pos) (tUn r ta) := by
  intro pins s σ H Q I h
  exact UnaryOp_ (thn (ha pins s σ H _ I h) fun v s1 ⟨x, H1, I1, r1, q1⟩ => ho pins s1 σ H1 x v Q I1 r1 q1)
/-! ### ints -/
theorem opI {f : Value → Value → Sem Value} {C : Int → Int → Prop} {g : Int → Int → Int}
    (rule : ∀ (i j : Int) (t u : Tok) (s : Shared) (Q : Value → Shared → Prop) (E : Value → Shared → Prop), C i j → Q (.int (g i j) s.toks) { s with toks := s.toks + 1 } → wpAny (model X.prog X.w) X.A (f (.int i t) (.int j u)) Q E s) :
    OpR X f (rI C fun i j => .int (g i j)) := by
  intro pins s σ H x y v u Q I rx ry h
  obtain ⟨i, j, rfl, rfl, hc, q⟩ := h
  obtain ⟨t, rfl⟩ := rx
  obtain ⟨t', rfl⟩ := ry
  exact rule i j t t' s _ _ hc ⟨.int (g i j), H, I.tok _, ⟨_, rfl⟩, q⟩
theorem opI0 {f : Value → Value → Sem Value} {g : Int → Int → Int}
    (rule : ∀ (i j : Int) (t u : Tok) (s : Shared) (Q : Value → Shared → Prop) (E : Value → Shared → Prop), Q (.int (g i j) s.toks) { s with toks := s.toks + 1 } → wpAny (model X.prog X.w) X.A (f (.int i t) (.int j u)) Q E s) :
    OpR X f (rI0 fun i j => .int (g i j)) := by
  intro pins s σ H x y v u Q I rx ry h
  obtain ⟨i, j, rfl, rfl, q⟩ := h
  obtain ⟨t, rfl⟩ := rx
  obtain ⟨t', rfl⟩ := ry
  exact rule i j t t' s _ _ ⟨.int (g i j), H, I.tok _, ⟨_, rfl⟩, q⟩
theorem opB0 {f : Value → Value → Sem Value} {g : Int → Int → Bool}
    (rule : ∀ (i j : Int) (t u : Tok) (s : Shared) (Q : Value → Shared → Prop) (E : Value → Shared → Prop), Q (.bool (g i j)) s → wpAny (model X.prog X.w) X.A (f (.int i t) (.int j u)) Q E s) :
    OpR X f (rI0 fun i j => .bl (g i j)) := by
  intro pins s σ H x y v u Q I rx ry h
  obtain ⟨i, j, rfl, rfl, q⟩ := h
  obtain ⟨t, rfl⟩ := rx
  obtain ⟨t', rfl⟩ := ry
  exact rule i j t t' s _ _ ⟨.bl (g i j), H, I, rfl, q⟩

def CDiv (i j : Int) : Prop := 0 < j ∧ j < 1073741824
def CPow (i j : Int) : Prop := 0 ≤ j ∧ j ≤ 1000000 ∧ i.natAbs < 2 ^ 64
theorem op_add : OpR X (binaryOp .Add) (rI0 fun i j => .int (i + j)) := opI0 fun _ _ _ _ _ _ _ q => add_int q
theorem op_sub : OpR X (binaryOp .Sub) (rI0 fun i j => .int (i - j)) := opI0 fun _ _ _ _ _ _ _ q => sub_int q
/-- // by a positive divisor -/
theorem op_fdiv : OpR X (binaryOp .FloorDiv) (rI CDiv fun i j => .int (i / j)) := opI fun i j _ _ _ _ _ hc q => by
  have h1 : (0 : Int) < j := hc.1
  have h2 : j < 1073741824 := hc.2
  exact floordiv_int (by omega) (by rw [Int.fdiv_eq_ediv_of_nonneg i (by omega)]; exact q) (.inl (PyProof.noPylong_small (by omega)))
/-- % by a positive divisor of any size -/
theorem op_mod : OpR X (binaryOp .Mod) (rI (fun _ j => 0 < j) fun i j => .int (i % j)) := opI fun i j _ _ _ _ _ hc q => by
  have h1 : (0 : Int) < j := hc
  exact mod_int' (by omega) (by rw [Int.fmod_eq_emod_of_nonneg i (by omega)]; exact q)
theorem op_pow : OpR X (binaryOp .Pow) (rI CPow fun i j => .int (i ^ j.toNat)) := opI fun _ _ _ _ _ _ _ hc q => pow_int_small hc.1 hc.2.1 hc.2.2 q
theorem unI {f : Value → Sem Value} {g : Int → Int}
    (rule : ∀ (i : Int) (t : Tok) (s : Shared) (Q : Value → Shared → Prop) (E : Value → Shared → Prop), Q (.int (g i) s.toks) { s with toks := s.toks + 1 } → wpAny (model X.prog X.w) X.A (f (.int i t)) Q E s) :
    UnR X f (rU fun i => .int (g i)) := by
  intro pins s σ H x v Q I rx h
  obtain ⟨i, rfl, q⟩ := h
  obtain ⟨t, rfl⟩ := rx
  exact rule i t s _ _ ⟨.int (g i), H, I.tok _, ⟨_, rfl⟩, q⟩
theorem un_neg : UnR X (unaryOp .USub) (rU fun i => .int (-i)) := unI fun _ _ _ _ _ q => neg_int q
/-! ### bools among ints: n += (a < b) -/
end

/-! ### comparisons -/
/-- the scalars that == tells apart as data does -/
def scal : V → V → Bool
  | .non, .non => true | .non, .int _ => true | .int _, .non => true | .non, .bl _ => true | .bl _, .non => true | .non, .str _ => true | .str _, .non => true
  | .int _, .int _ => true | .bl _, .bl _ => true | .str _, .str _ => true | .byt _, .byt _ => true
  | .int _, .str _ => true | .str _, .int _ => true | .bl _, .str _ => true | .str _, .bl _ => true
  | _, _ => false
def rEq : R2 := fun x y H Q => scal x y = true ∧ Q (.bl (decide (x = y))) H
def rNe : R2 := fun x y H Q => scal x y = true ∧ Q (.bl (!decide (x = y))) H

theorem dec_int {i j : Int} : decide (V.int i = V.int j) = (i == j) := by
  rw [Bool.eq_iff_iff]
  simp
theorem dec_bl {i j : Bool} : decide (V.bl i = V.bl j) = (i == j) := by
  rw [Bool.eq_iff_iff]
  simp
theorem dec_str {i j : Str} : decide (V.str i = V.str j) = (i == j) := by
  rw [Bool.eq_iff_iff]
  simp
theorem dec_byt {i j : Array UInt8} : decide (V.byt i = V.byt j) = (i.toList == j.toList) := by
  rw [Bool.eq_iff_iff]
  cases i
  cases j
  simp

section
variable {X : Cx} {a b c : Expr} {ta tb tc : TE} {pos : Pos}
theorem fin_bl {pins : List (Addr × Obj)} {σ : St} {H : Hp} {s : Shared} {Q : VK} {k k' : Bool} (I : Inv X pins σ H s) (q : Q (.bl k) H) (e : k = k') : EP X pins σ Q (.bool k') s := by
  subst e
  exact ⟨.bl k, H, I, rfl, q⟩
theorem op_eq : OpR X (compareOp .Eq) rEq := by
  intro pins s σ H x y v u Q I rx ry h
  obtain ⟨hs, q⟩ := h
  cases x with
  | non =>
    cases rx
    cases y with
    | non => cases ry; exact PySem.EqNone.eq_none_none (fin_bl I q (by simp))
    | bl j => cases ry; exact PySem.EqNone.eq_none_bool (fin_bl I q (by simp))
    | int j => obtain ⟨t', rfl⟩ := ry; exact PySem.EqNone.eq_none_int (fin_bl I q (by simp))
    | str j => obtain ⟨t', rfl⟩ := ry; exact PySem.EqNone.eq_none_str (fin_bl I q (by simp))
    | _ => exact absurd (show false = true from hs) Bool.false_ne_true
  | bl i =>
    cases rx
    cases y with
    | non => cases ry; exact PySem.EqNone.eq_bool_none (fin_bl I q (by simp))
    | bl j => cases ry; exact eq_bool (fin_bl I q dec_bl)
    | str j => obtain ⟨t', rfl⟩ := ry; exact PySem.EqMixed.eq_bool_str (fin_bl I q (by simp))
    | _ => exact absurd (show false = true from hs) Bool.false_ne_true
  | int i =>
    obtain ⟨t, rfl⟩ := rx
    cases y with
    | non => cases ry; exact PySem.EqNone.eq_int_none (fin_bl I q (by simp))
    | int j => obtain ⟨t', rfl⟩ := ry; exact eq_int (fin_bl I q dec_int)
    | str j => obtain ⟨t', rfl⟩ := ry; exact PySem.EqMixed.eq_int_str (fin_bl I q (by simp))
    | _ => exact absurd (show false = true from hs) Bool.false_ne_true
  | str i =>
    obtain ⟨t, rfl⟩ := rx
    cases y with
    | non => cases ry; exact PySem.EqNone.eq_str_none (fin_bl I q (by simp))
    | bl j => cases ry; exact PySem.EqMixed.eq_str_bool (fin_bl I q (by simp))
    | int j => obtain ⟨t', rfl⟩ := ry; exact PySem.EqMixed.eq_str_int (fin_bl I q (by simp))
    | str j => obtain ⟨t', rfl⟩ := ry; exact eq_str (fin_bl I q dec_str)
    | _ => exact absurd (show false = true from hs) Bool.false_ne_true
  | byt i =>
    obtain ⟨t, rfl⟩ := rx
    cases y with
    | byt j => obtain ⟨t', rfl⟩ := ry; exact PySem.W.eq_bytes (fin_bl I q dec_byt)
    | _ => exact absurd (show false = true from hs) Bool.false_ne_true
  | _ => cases y <;> exact absurd (show false = true from hs) Bool.false_ne_true
theorem op_ne : OpR X (compareOp .NotEq) rNe := by
  intro pins s σ H x y v u Q I rx ry h
  obtain ⟨hs, q⟩ := h
  cases x with
  | non =>
    cases rx
    cases y with
    | non => cases ry; exact PySem.EqNone.ne_none_none (fin_bl I q (by simp))
    | bl j => cases ry; exact PySem.EqNone.ne_none_bool (fin_bl I q (by simp))
    | int j => obtain ⟨t', rfl⟩ := ry; exact PySem.EqNone.ne_none_int (fin_bl I q (by simp))
    | str j => obtain ⟨t', rfl⟩ := ry; exact PySem.EqNone.ne_none_str (fin_bl I q (by simp))
    | _ => exact absurd (show false = true from hs) Bool.false_ne_true
  | bl i =>
    cases rx
    cases y with
    | non => cases ry; exact PySem.EqNone.ne_bool_none (fin_bl I q (by simp))
    | bl j => cases ry; exact ne_bool (fin_bl I q (congrArg not dec_bl))
    | str j => obtain ⟨t', rfl⟩ := ry; exact PySem.EqMixed.ne_bool_str (fin_bl I q (by simp))
    | _ => exact absurd (show false = true from hs) Bool.false_ne_true
  | int i =>
    obtain ⟨t, rfl⟩ := rx
    cases y with
    | non => cases ry; exact PySem.EqNone.ne_int_none (fin_bl I q (by simp))
    | int j => obtain ⟨t', rfl⟩ := ry; exact ne_int (fin_bl I q (congrArg not dec_int))
    | str j => obtain ⟨t', rfl⟩ := ry; exact PySem.EqMixed.ne_int_str (fin_bl I q (by simp))
    | _ => exact absurd (show false = true from hs) Bool.false_ne_true
  | str i =>
    obtain ⟨t, rfl⟩ := rx
    cases y with
    | non => cases ry; exact PySem.EqNone.ne_str_none (fin_bl I q (by simp))
    | bl j => cases ry; exact PySem.EqMixed.ne_str_bool (fin_bl I q (by simp))
    | int j => obtain ⟨t', rfl⟩ := ry; exact PySem.EqMixed.ne_str_int (fin_bl I q (by simp))
    | str j => obtain ⟨t', rfl⟩ := ry; exact ne_str (fin_bl I q (congrArg not dec_str))
    | _ => exact absurd (show false = true from hs) Bool.false_ne_true
  | byt i =>
    obtain ⟨t, rfl⟩ := rx
    cases y with
    | byt j => obtain ⟨t', rfl⟩ := ry; exact PySem.W.ne_bytes (fin_bl I q (congrArg not dec_byt))
    | _ => exact absurd (show false = true from hs) Bool.false_ne_true
  | _ => cases y <;> exact absurd (show false = true from hs) Bool.false_ne_true

theorem op_lt : OpR X (compareOp .Lt) (rI0 fun i j => .bl (decide (i < j))) := opB0 fun _ _ _ _ _ _ _ q => lt_int q
theorem op_le : OpR X (compareOp .LtE) (rI0 fun i j => .bl (decide (i ≤ j))) := opB0 fun _ _ _ _ _ _ _ q => le_int q
theorem op_gt : OpR X (compareOp .Gt) (rI0 fun i j => .bl (decide (j < i))) := opB0 fun _ _ _ _ _ _ _ q => gt_int q
/-- the one string within the other -/
theorem op_in_str : OpR X (compareOp .In) (fun x y H Q => ∃ i j, x = .str i ∧ y = .str j ∧ Q (.bl (!(Builtin.Str.occurrences j i 0 j.length 1).isEmpty)) H) := by
  intro pins s σ H x y v u Q I rx ry h
  obtain ⟨i, j, rfl, rfl, q⟩ := h
  obtain ⟨t, rfl⟩ := rx
  obtain ⟨t', rfl⟩ := ry
  exact in_str (fin_bl I q rfl)

/-- is None, is not None: the right side a value none -/
theorem op_isN : OpR X (compareOp .Is) (fun x y H Q => y = .non ∧ Q (.bl (decide (x = .non))) H) := by
  intro pins s σ H x y v u Q I rx ry h
  obtain ⟨rfl, q⟩ := h
  cases ry
  refine is_none_gen (fin_bl I q ?_)
  cases x <;> first
    | (cases rx; rfl)
    | (obtain ⟨t, rfl⟩ := rx; rfl)
theorem op_notN : OpR X (compareOp .IsNot) (fun x y H Q => y = .non ∧ Q (.bl (!decide (x = .non))) H) := by
  intro pins s σ H x y v u Q I rx ry h
  obtain ⟨rfl, q⟩ := h
  cases ry
  refine isnot_none_gen (fin_bl I q ?_)
  cases x <;> first
    | (cases rx; rfl)
    | (obtain ⟨t, rfl⟩ := rx; rfl)

theorem nomark (b : Expr) {op : CmpOp} (h : op ≠ .In := by decide) (h2 : op ≠ .NotIn := by decide) : behindInMarks op b = false := by
  have e1 : (op == CmpOp.In) = false := by cases op <;> first | rfl | exact absurd rfl h
  have e2 : (op == CmpOp.NotIn) = false := by cases op <;> first | rfl | exact absurd rfl h2
  cases b <;> simp [behindInMarks, e1, e2]
/-- a comparison as a value; hm: nomark b, or (for in, not in) by with_unfolding_all rfl -/
theorem pe_cmpR {op : CmpOp} {r : R2} (ho : OpR X (compareOp op) r) (ha : PE X a ta) (hb : PE X b tb) (hm : behindInMarks op b = false) : PE X (.Compare a [op] [b] pos) (tOp r ta tb) := by
  intro pins s σ H Q I h
  exact wpAny_Compare1 (binT ha hb I h fun v u s2 x y H2 I2 rx ry q => ho pins s2 σ H2 x y v u Q I2 rx ry q) hm
/-- a reading of a value as a test -/
def tTest (t : TE) : TT := fun σ H Q => t σ H fun x H' => ∃ k, x = .bl k ∧ Q k H'
theorem pt_cmpR {op : CmpOp} {r : R2} (ho : OpR X (compareOp op) r) (ha : PE X a ta) (hb : PE X b tb) (hm : behindInMarks op b = false) : PT X (.Compare a [op] [b] pos) (tTest (tOp r ta tb)) := by
  intro pins s σ H Q I h
  refine wpAny_isTrue_Compare1 (thn (ha pins s σ H _ I h) fun v s1 ⟨x, H1, I1, r1, q1⟩ => thn (hb pins s1 σ H1 _ I1 q1) fun u s2 ⟨y, H2, I2, r2, q2⟩ =>
    thn (ho pins s2 σ H2 x y v u _ I2 r1 r2 q2) fun c s3 ⟨z, H3, I3, r3, k, e, q3⟩ => ?_) hm
  subst e
  cases r3
  exact wpAny_truthy_bool ⟨H3, I3, q3⟩
/-- a op1 b op2 c -/
def tChain (r r' : R2) (ta tb tc : TE) : TE := fun σ H Q => ta σ H fun x H1 => tb σ H1 fun y H2 => r x y H2 fun z H3 => ∃ k, z = .bl k ∧
  (if k = true then tc σ H3 fun w' H4 => r' y w' H4 Q else Q (.bl false) H3)
theorem pe_chain {op op' : CmpOp} {r r' : R2} (ho : OpR X (compareOp op) r) (ho' : OpR X (compareOp op') r') (ha : PE X a ta) (hb : PE X b tb) (hc : PE X c tc)
    (hm : lastMarks [op, op'] [b, c] = false := by with_unfolding_all rfl) : PE X (.Compare a [op, op'] [b, c] pos) (tChain r r' ta tb tc) := by
  intro pins s σ H Q I h
  refine Compare_chain (thn (ha pins s σ H _ I h) fun v s1 ⟨x, H1, I1, r1, q1⟩ => chain_link (thn (hb pins s1 σ H1 _ I1 q1) fun u s2 ⟨y, H2, I2, r2, q2⟩ =>
    thn (ho pins s2 σ H2 x y v u _ I2 r1 r2 q2) fun d s3 ⟨z, H3, I3, r3, k, e, q3⟩ => ?_)) hm
  subst e
  cases r3
  refine wpAny_truthy_bool ?_
  cases k with
  | false => exact ite_ff ⟨.bl false, H3, I3, rfl, q3⟩
  | true => exact ite_tt (chain_last (thn (hc pins s3 σ H3 _ I3 q3) fun w' s4 ⟨z', H4, I4, r4, q4⟩ => ho' pins s4 σ H4 y z' u w' Q I4 r2 r4 q4))
/-! ### truth -/
theorem line63 : (sizeLine : Nat) < 2 ^ 63 := by rw [sizeLine_eq]; decide
/-! ### strs and bytes -/
theorem op_add_str : OpR X (binaryOp .Add) (fun x y H Q => ∃ i j, x = .str i ∧ y = .str j ∧ i.length + j.length ≤ sizeLine ∧ Q (.str (i ++ j)) H) := by
  intro pins s σ H x y v u Q I rx ry h
  obtain ⟨i, j, rfl, rfl, hz, q⟩ := h
  obtain ⟨t, rfl⟩ := rx
  obtain ⟨t', rfl⟩ := ry
  exact add_str (fun t' tk => ⟨.str (i ++ j), H, I.tok _, ⟨_, rfl⟩, q⟩) hz
/-! ### scalar builtins, by CallR -/
theorem vals1 {x : V} {us : List Value} (r : Vals [x] us) : ∃ u, us = [u] ∧ RelV x u := by
  cases r with
  | cons r1 r2 => cases r2; exact ⟨_, rfl, r1⟩
theorem call_int1 : CallR X (.type "int") (fun xs H Q => (∃ i, xs = [.int i] ∧ Q (.int i) H) ∨ ∃ k, xs = [.bl k] ∧ Q (.int (if k then 1 else 0)) H) := by
  intro pins s σ H xs us Q I r h
  rcases h with ⟨i, rfl, q⟩ | ⟨k, rfl, q⟩
  · obtain ⟨u, rfl, t, rfl⟩ := vals1 r
    exact call_int_int ⟨.int i, H, I, ⟨_, rfl⟩, q⟩
  · obtain ⟨u, rfl, r1⟩ := vals1 r
    cases r1
    exact call_int_bool ⟨.int (if k then 1 else 0), H, I.tok _, ⟨_, rfl⟩, q⟩
theorem call_str_int : CallR X (.type "str") (fun xs H Q => ∃ i, xs = [.int i] ∧ i.natAbs.log2 < 1920 ∧ Q (.str (toString i)) H) := by
  intro pins s σ H xs us Q I r h
  obtain ⟨i, rfl, hz, q⟩ := h
  obtain ⟨u, rfl, t, rfl⟩ := vals1 r
  exact PySem.P.str_of_int hz ⟨.str _, H, I.tok _, ⟨_, rfl⟩, q⟩
end
end L2

namespace L2
open PySem PySem.Spec PyProof.Rows

/-! ### an instance, its attributes a map -/
structure ObjM (h : Heap) (x dx C : Addr) (mA : Str → Option Value) : Prop where
  obj : h.get? x = some (PySem.W.instObj C dx)
  ns : h.Ns1 dx mA
  ne : dx ≠ x

theorem lookIn_ns {h : Heap} {dx : Addr} {mA : Str → Option Value} (n : h.Ns1 dx mA) : ∃ od, h.get? dx = some od ∧ ∀ name, PySem.W.lookIn name od = some (mA name) := by
  obtain ⟨o, es, ep, ho, hd, hk, _, hm⟩ := n
  refine ⟨o, ho, fun name => ?_⟩
  have e := hm name
  unfold nsFind findBy at e
  rw [← Array.find?_toList] at e
  unfold PySem.W.lookIn
  rw [hd]
  dsimp only
  split
  · rename_i y q
    rw [q] at e
    exact congrArg some e
  · rename_i q
    rw [q] at e
    have a : es.toList.any (·.refKey) = false := by
      rw [List.any_eq_false]
      intro y hy
      obtain ⟨z, t, hkey⟩ := hk y (Array.mem_toList_iff.mp hy)
      simp [DictEntry.refKey, hkey]
    have a' : ¬ es.toList.any (·.refKey) = true := by rw [a]; exact Bool.false_ne_true
    rw [if_neg a']
    exact congrArg some e

theorem ObjM.look {h : Heap} {x dx C : Addr} {mA : Str → Option Value} (I : ObjM h x dx C mA) : ∃ od, PySem.W.InstAt h x (PySem.W.instObj C dx) C (some od) ∧ ∀ name, PySem.W.lookIn name od = some (mA name) :=
  let ⟨od, ho, hl⟩ := lookIn_ns I.ns
  ⟨od, ⟨I.obj, rfl, rfl, ho⟩, hl⟩

section
variable {prog : Program} {w : World} {A : Around} {E : Value → Shared → Prop} {s : Shared} {K : PySem.W.Frag} {x dx C f : Addr} {mA : Str → Option Value} {name : Str} {v : Value}

end

/-! ### the attributes as a list of pairs -/
section
variable {P : Program} {w : World} {H H' : Hp} {h h' : Heap} {a C dx : Addr} {fs fs' : List (Str × V)}
theorem ins_get (hok : HOk P w H h) (e : H a = some (.ins C dx fs)) : ∃ mA, ObjM h a dx C mA ∧ (∀ f, RelO (fs.lookup f) (mA f)) ∧ PySem.Within mA (fs.map (·.1)) ∧ fs.length ≤ 1000 ∧ H dx = some (.own a) := by
  obtain ⟨d, z, ne, ob, mA, n, r, q⟩ := (show ObjOk P w H h a (.ins C dx fs) from hok a _ e)
  exact ⟨mA, ⟨ob, n, ne⟩, r, q, z, d⟩
end

/-! ### what of the text a class must have -/
structure Cls (K : PySem.W.Frag) (C : Addr) : Prop where
  pg : PySem.W.plainGet K C Str.empty = true
  hd : PySem.W.hasDictIn K C = true
  po : PySem.W.plainOver K C = true
  sa : PySem.W.findIn K (.ref C) "__setattr__" = some (some (.builtin "object.__setattr__"))
theorem Cls.get {K : PySem.W.Frag} {C : Addr} (c : Cls K C) (f : Str) : PySem.W.plainGet K C f = true := c.pg
section
variable {X : Cx} {pins : List (Addr × Obj)} {σ : St} {H : Hp} {s : Shared} {a C dx : Addr} {fs : List (Str × V)} {f : Str} {v : V} {A : Around} {E : Value → Shared → Prop}

end

/-! ### readings and rules -/
section
variable {X : Cx} {o e value : Expr} {f : Str} {pos pos' tpos : Pos} {ta tv : TE}
end

/-! ### isinstance -/
section
variable {X : Cx} {pins : List (Addr × Obj)} {σ : St} {H : Hp} {s : Shared} {A : Around} {E : Value → Shared → Prop} {Q : Value → Shared → Prop} {c : Value} {b : Bool}
/-- the type of a value, as the fragment's deciders take it; for an instance its class -/
inductive TyOf (K : PySem.W.Frag) (H : Hp) : V → Value → Prop where
  | non : TyOf K H .non (.type "NoneType")
  | bl (x : Bool) : TyOf K H (.bl x) (.type "bool")
  | int (i : Int) : TyOf K H (.int i) (.type "int")
  | str (x : Str) : TyOf K H (.str x) (.type "str")
  | flt (x : UInt64) : TyOf K H (.flt x) (.type "float")
  | lst {a : Addr} {xs : List V} (e : H a = some (.lst xs)) : TyOf K H (.ref a) (.type "list")
  | frz {a : Addr} {o : Obj} {xs : List V} (e : H a = some (.frz o (.lst xs))) : TyOf K H (.ref a) (.type "list")
  | tup {a : Addr} {xs : List V} (e : H a = some (.tup xs)) : TyOf K H (.ref a) (.type "tuple")
  | dK {a : Addr} {kvs : List (Key × V)} (e : H a = some (.dK kvs)) : TyOf K H (.ref a) (.type "dict")
  | dT {a : Addr} {kvs : List (List Key × V)} (e : H a = some (.dT kvs)) : TyOf K H (.ref a) (.type "dict")
  | ins {a C dx : Addr} {fs : List (Str × V)} (e : H a = some (.ins C dx fs)) (cl : Cls K C) (ha : PySem.W.findIn K (.ref C) "__class__" = some (some (.builtin "object.__class__")))
      (hn : PySem.W.specialIn K (.builtin "object.__class__") "__get__" = some (some (.builtin "getset_descriptor.__get__"))) (htk : PySem.W.takesIn K (.builtin "object.__class__") = some true)
      (hm : PySem.W.mroIn K C (.type "object") = some true) : TyOf K H (.ref a) (.ref C)
/-- isinstance(x, c) for one class c, a built-in or an own one: kitOne's answer -/
theorem isinst_ok {x : V} {u t : Value} (I : Inv X pins σ H s) (rx : RelV x u) (ty : TyOf X.K H x t) (e : PySem.W.kitOne X.K t c = some b) (h : ∀ tk, Q (.bool b) { s with toks := tk }) :
    wpAny (model X.prog X.w) A (call (.builtin "isinstance") [u, c]) Q E s := by
  cases ty with
  | non => cases (show u = Value.none from rx); exact PySem.W.kia_one PySem.W.kitx_none I.kIn True.intro e (fun z => nomatch z) h
  | bl y => cases (show u = Value.bool y from rx); exact PySem.W.kia_one PySem.W.kitx_bool I.kIn True.intro e (fun z => nomatch z) h
  | int i => obtain ⟨t, q⟩ := (show ∃ t, u = Value.int i t from rx); cases q; exact PySem.W.kia_one PySem.W.kitx_int I.kIn True.intro e (fun z => nomatch z) h
  | str y => obtain ⟨t, q⟩ := (show ∃ t, u = Value.str y t from rx); cases q; exact PySem.W.kia_one PySem.W.kitx_str I.kIn True.intro e (fun z => nomatch z) h
  | flt y => obtain ⟨t, q⟩ := (show ∃ t, u = Value.float y t from rx); cases q; exact PySem.W.kia_one PySem.W.kitx_float I.kIn True.intro e (fun z => nomatch z) h
  | @lst a xs ea =>
    cases (show u = Value.ref a from rx)
    obtain ⟨_, _, n, _, h1⟩ := (show ObjOk X.prog X.w H s.heap a (.lst xs) from I.hok a _ ea)
    exact PySem.W.kia_one PySem.W.kitx_list I.kIn ⟨_, h1, rfl⟩ e (fun z => nomatch z) h
  | @frz a ob xs ea =>
    cases (show u = Value.ref a from rx)
    obtain ⟨_, _, _, n, _, h1⟩ := (show ObjOk X.prog X.w H s.heap a (.frz ob (.lst xs)) from I.hok a _ ea)
    exact PySem.W.kia_one PySem.W.kitx_list I.kIn ⟨_, h1, rfl⟩ e (fun z => nomatch z) h
  | @tup a xs ea =>
    cases (show u = Value.ref a from rx)
    obtain ⟨_, _, _, p⟩ := (show ObjOk X.prog X.w H s.heap a (.tup xs) from I.hok a _ ea)
    obtain ⟨o, h1, h2, _⟩ := p
    exact PySem.W.kia_one PySem.W.kitx_tuple I.kIn ⟨o, h1, h2⟩ e (fun z => nomatch z) h
  | @dK a kvs ea =>
    cases (show u = Value.ref a from rx)
    obtain ⟨_, _, vs, _, p⟩ := (show ObjOk X.prog X.w H s.heap a (.dK kvs) from I.hok a _ ea)
    obtain ⟨o, es, ep, h1, h2, _⟩ := p
    exact PySem.W.kia_one PySem.W.kitx_dict I.kIn ⟨o, h1, h2.1⟩ e (fun z => nomatch z) h
  | @dT a kvs ea => exact False.elim (show ObjOk X.prog X.w H s.heap a (.dT kvs) from I.hok a _ ea)
  | @ins a C dx fs ea cl ha hn htk hm =>
    cases (show u = Value.ref a from rx)
    obtain ⟨mA, O, _⟩ := ins_get I.hok ea
    obtain ⟨od, J, _⟩ := O.look
    exact PySem.W.kia_one (PySem.W.kitx_own (cl.get _) cl.hd ha hn htk hm) I.kIn J e (fun z => nomatch z) h
end
end L2

namespace L2
open PySem PySem.Spec PyProof.Rows

/-! ### room -/
structure Room (k : Nat) (A : Around) : Prop where
  hd : A.handled = none
  dp : A.depth + 3 * k + 5 < recursionLimit
  un : A.units + 16 * k + 200 < cLine
theorem Room.mono {j k : Nat} {A : Around} (r : Room k A) (h : j ≤ k) : Room j A := ⟨r.hd, by have := r.dp; omega, by have := r.un; omega⟩
theorem Room.deeper {k : Nat} {A : Around} (r : Room (k + 1) A) (env : Env) : Room k (A.deeper env) :=
  ⟨r.hd, by have := r.dp; show A.depth + 1 + 3 * k + 5 < _; omega, by have := r.un; show A.units + 3 + 16 * k + 200 < _; omega⟩
theorem Room.depth {k : Nat} {A : Around} (r : Room k A) : A.depth < recursionLimit := by have := r.dp; omega
theorem Room.units {k : Nat} {A : Around} (r : Room k A) : A.units + 64 < cLine := by have := r.un; omega
/-! ### argument lists and displays -/
def tNil : TA := fun _ H Q => Q [] H
def tCons (ta : TE) (tr : TA) : TA := fun σ H Q => ta σ H fun x H1 => tr σ H1 fun xs H2 => Q (x :: xs) H2
section
variable {X : Cx} {e : Expr} {es : List Expr} {te : TE} {t : TA} {pos : Pos}
theorem pa_nil : PA X [] tNil := fun _ _ _ _ H Q I h => Calls.spliced_nil ⟨[], H, I, .nil, h⟩
theorem pa_cons (ha : PE X e te) (hr : PA X es t) (hs : starEach (e :: es) X.env = (false, eval e X.env) :: starEach es X.env := by rfl) : PA X (e :: es) (tCons te t) := by
  intro pos pins s σ H Q I h
  rw [hs]
  show wpAny _ _ (spliced ((false, eval e X.env) :: backTo pos (starEach es X.env))) _ _ s
  refine Calls.spliced_cons (thn (ha pins s σ H _ I h) fun u s1 ⟨x, H1, I1, r1, q1⟩ => ?_)
  exact thn (hr pos pins s1 σ H1 _ I1 q1) fun us s2 ⟨xs, H2, I2, r2, q2⟩ => ⟨x :: xs, H2, I2, .cons r1 r2, q2⟩

/-- a tuple, a list of written items -/
def tTup (t : TA) : TE := fun σ H Q => t σ H fun xs H1 => xs.length ≤ sizeLine ∧ ∀ p, H1 p = none → Q (.ref p) (upd H1 p (.tup xs))
def tLst (t : TA) : TE := fun σ H Q => t σ H fun xs H1 => xs.length ≤ sizeLine ∧ ∀ p, H1 p = none → Q (.ref p) (upd H1 p (.lst xs))
theorem pe_tup {x1} (h : PA X es t) : PE X (.Tuple es x1 pos) (tTup t) := by
  intro pins s σ H Q I hq
  refine wpAny_Tuple_spliced (thn (h pos pins s σ H _ I hq) fun us s1 ⟨xs, H1, I1, r, z, q⟩ => ⟨by rw [← r.length]; exact z, ?_⟩)
  have hf : H1 s1.heap.objs.size = none := I1.hok.fresh (Nat.le_refl _)
  refine ⟨.ref s1.heap.objs.size, upd H1 s1.heap.objs.size (.tup xs), I1.laid (t' := s1.toks) (fun b u e => Heap.get?_push_of_some _ e) (Nat.le_refl _) ?_, rfl, q _ hf⟩
  exact ⟨z, us, r, ⟨_, Heap.get?_push_size _ rfl, rfl, _, rfl⟩⟩
theorem pe_lst (h : PA X es t) : PE X (.List es pos) (tLst t) := by
  intro pins s σ H Q I hq
  refine wpAny_List_spliced (thn (h pos pins s σ H _ I hq) fun us s1 ⟨xs, H1, I1, r, z, q⟩ => ⟨by rw [← r.length]; exact z, ?_⟩)
  have hf : H1 s1.heap.objs.size = none := I1.hok.fresh (Nat.le_refl _)
  refine ⟨.ref s1.heap.objs.size, upd H1 s1.heap.objs.size (.lst xs), I1.laid (t' := s1.toks) (fun b u e => Heap.get?_push_of_some _ e) (Nat.le_refl _) ?_, rfl, q _ hf⟩
  exact ⟨z, us, 0, r, Heap.get?_push_size _ rfl⟩
end

/-! ### what a def promises -/
/-- a def's promise: the bound arguments in the parameters' order, the heap, the wanted end, the wanted exception -/
abbrev Sp := List V → Hp → VK → XK → Prop
/-- how an exception lies behind a call (file 08 gives it): the callers' frames, abstract heap and state ahead of the call, the wish, the exception, the state -/
abbrev CXT := List Env → Hp → Shared → XK → Value → Shared → Prop

/-- the state at a call -/
structure Env0 (P : Program) (w : World) (K : PySem.W.Frag) (mg : Str → Option Value) (base : Heap) (A : Around) (outer : List Env) (s : Shared) (H : Hp) : Prop where
  frames : A.frames = some outer
  mod : Mod K mg base
  bs : ∀ b o, base.get? b = some o → s.heap.get? b = some o ∧ H b = none
  bsz : base.objs.size ≤ s.heap.objs.size
  funs : s.heap.FunFrames base outer
  frf : ∀ b ∈ frs outer, H b = none
  hok : HOk P w H s.heap
  bare : AllBare s.gens
/-- a call's end -/
def CE (outer : List Env) (P : Program) (w : World) (H : Hp) (s : Shared) (Q : VK) (u : Value) (s' : Shared) : Prop :=
  ∃ v H', s'.os = s.os ∧ AllBare s'.gens ∧ Un (frs outer) [] H H' s.heap s'.heap ∧ HOk P w H' s'.heap ∧ RelV v u ∧ Q v H'
def CR (CX : CXT) (outer : List Env) (P : Program) (w : World) (H : Hp) (s : Shared) (Q : VK) (E : XK) (r : Result) (s' : Shared) : Prop :=
  match r with
  | .ok (.ret u) => CE outer P w H s Q u s'
  | .ok _ => False
  | .error e => CX outer H s E e s'
structure FnOk (P : Program) (w : World) (K : PySem.W.Frag) (mg : Str → Option Value) (base : Heap) (CX : CXT) (k : Nat) (f : Addr) (fd : FuncData) (ps : List Str) (sp : Sp) : Prop where
  len : ∀ vs H Q E, sp vs H Q E → vs.length = ps.length
  run : ∀ (A : Around) (outer : List Env) (s : Shared) (H : Hp) (args : Args) (us : List Value) (vs : List V) (Q : VK) (E : XK), Room k A → Env0 P w K mg base A outer s H → BindsTo s fd args (ps.zip us) → Vals vs us → sp vs H Q E →
    codeAny (model P w) A (.call (.ref f) args) (CR CX outer P w H s Q E) s
theorem FnOk.mono {P : Program} {w : World} {K : PySem.W.Frag} {mg : Str → Option Value} {base : Heap} {CX : CXT} {j k : Nat} {f : Addr} {fd : FuncData} {ps : List Str} {sp : Sp} (F : FnOk P w K mg base CX j f fd ps sp) (h : j ≤ k) :
    FnOk P w K mg base CX k f fd ps sp := ⟨F.len, fun A outer s H args us vs Q E hr => F.run A outer s H args us vs Q E (hr.mono h)⟩
section
variable {X : Cx} {pins : List (Addr × Obj)} {σ : St} {H : Hp} {s s' : Shared}
/-- from a body: what a callee wants -/
theorem Inv.env0 (I : Inv X pins σ H s) : Env0 X.prog X.w X.K X.mg X.base X.A X.stack s H :=
  ⟨I.ok.frames, I.ok.mod, I.bs, Nat.le_trans I.ok.bsz I.sz, I.stack, I.stkFree, I.hok, I.bare⟩
/-- behind a call -/
theorem Inv.after {Q : VK} {u : Value} (I : Inv X pins σ H s) (h : CE X.stack X.prog X.w H s Q u s') : EP X pins σ Q u s' := by
  obtain ⟨v, H', os, bare, un, hok, r, q⟩ := h
  obtain ⟨hh, g, d, t, os'⟩ := s'
  obtain rfl : os' = s.os := os
  exact ⟨v, H', I.call (h' := hh) (g' := g) (d' := d) (t' := t) (ch := []) un hok bare (fun b z => absurd z (by simp)), r, q⟩
end

/-! ### calls -/
/-- f(..): the written arguments, then the defaults dvs; E: what is wanted of an exception -/
def tCall (sp : Sp) (dvs : List V) (E : XK) (t : TA) : TE := fun σ H Q => t σ H fun vs H1 => sp (vs ++ dvs) H1 Q E
/-- how the parameters are bound: us the positional arguments, kw the keywords' values by name, ds the defaults that fill up -/
def Binds (K : PySem.W.Frag) (fd : FuncData) (ps : List Str) (ds : List Value) : Prop :=
  ∀ (s : Shared) (us : List Value), K.In s.heap → (us ++ ds).length = ps.length → BindsTo s fd ⟨us, []⟩ (ps.zip (us ++ ds))
/-- every parameter is given -/
theorem Binds.all {K : PySem.W.Frag} {fd : FuncData} {ps : List Str} (h : ∀ us : List Value, us.length = ps.length → bindArgs fd ⟨us, []⟩ = pure (ps.zip us)) : Binds K fd ps [] := fun s us _ hl => by
  rw [List.append_nil] at hl ⊢
  exact .of_eq (h us hl)

/-- an exception of a callee reaches what this body wants of exceptions -/
def Passes (CX : CXT) (X : Cx) (E : XK) : Prop := ∀ (pins : List (Addr × Obj)) (σ : St) (H : Hp) (s : Shared) (e : Value) (s' : Shared), Inv X pins σ H s → CX X.stack H s E e s' → X.xe e s'

section
variable {X : Cx} {CX : CXT} {k : Nat} {f C : Addr} {fd : FuncData} {ps : List Str} {sp : Sp} {dvs : List V} {ds : List Value} {E : XK} {x m : Str} {p pos apos : Pos} {e o : Expr} {es : List Expr} {ta : TE} {t : TA}

/-- the callee runs -/
theorem run_fn {pins : List (Addr × Obj)} {σ : St} {H : Hp} {s : Shared} {Q : VK} {us : List Value} {vs : List V} (F : FnOk X.prog X.w X.K X.mg X.base CX k f fd ps sp) (hr : Room k X.A) (hb : Binds X.K fd ps ds) (hd : Vals dvs ds) (hx : Passes CX X E)
    (I : Inv X pins σ H s) (r : Vals vs us) (h : sp (vs ++ dvs) H Q E) : wpAny (model X.prog X.w) X.A (call (.ref f) us) (EP X pins σ Q) X.xe s := by
  have r2 : Vals (vs ++ dvs) (us ++ ds) := r.append hd
  have hl : (us ++ ds).length = ps.length := by rw [← r2.length]; exact F.len _ _ _ _ h
  refine wpAny_call (codeAny_mono (F.run X.A X.stack s H ⟨us, []⟩ (us ++ ds) (vs ++ dvs) Q E hr I.env0 (hb s us I.kIn hl) r2 h) fun r s' hq => ?_)
  cases r with
  | error e => exact hx pins σ H s e s' I hq
  | ok fl =>
    cases fl with
    | ret u => exact I.after hq
    | next => exact False.elim hq
    | brk => exact False.elim hq
    | cont => exact False.elim hq

theorem pe_call (F : FnOk X.prog X.w X.K X.mg X.base CX k f fd ps sp) (hr : Room k X.A) (hg : Gl X x) (hm : X.mg x = some (.ref f)) (hk : PySem.W.keepIn X.K (.ref f) = true) (hb : Binds X.K fd ps ds) (hd : Vals dvs ds) (hx : Passes CX X E)
    (ha : PA X (e :: es) t) (hdb : (x == ("__debug__" : Str)) = false := by decide) (he : starEach (e :: es) X.env = (false, eval e X.env) :: starEach es X.env := by rfl) (hpl : (backTo pos (starEach es X.env)).any (·.1) = false := by rfl) :
    PE X (.Call (.Name x p) (e :: es) [] pos) (tCall sp dvs E t) := by
  intro pins s σ H Q I h
  refine wpAny_Call_Name_kw (ld_glob I hg hm ?_ hdb)
  refine PySem.W.callWith_K (h₀ := X.base) I.ok.mod.kin hk (thn (ha pos pins s σ H _ I h) fun us s1 ⟨vs, H1, I1, r, q⟩ => ⟨I1.kIn, ?_⟩) he hpl
  exact run_fn F hr hb hd hx I1 r q
end

/-! ### keywords -/
section
variable {X : Cx} {CX : CXT} {k : Nat} {f C : Addr} {fd : FuncData} {ps ks : List Str} {sp : Sp} {E : XK} {x m : Str} {p pos apos kpos : Pos} {e o : Expr} {es : List Expr} {kws : List Keyword} {te ta : TE} {t tk : TA} {nm : Option Str}
variable {g : List Value → List Value → List Value} {gV : List V → List V → List V}
end

/-! ### a def's body keeps its promise -/
/-- names: the parameters first -/
structure FnScope (N P : List Str) (sc : Scope) : Prop where
  kind : sc.kind = .function
  co : sc.isCoroutine = false
  gen : sc.isGenerator = false
  nd : N.Nodup
  pre : N.take P.length = P
  par : ∀ x ∈ P, sc.names.lookup x = some .local ∨ sc.names.lookup x = some .cell
  nofree : ∀ y ∈ sc.names, y.2 ≠ .free

theorem bindL_out {kindOf : Str → Option NameKind} {x : Str} : ∀ {binds : List (Str × Value)} {m : Str → Option Value}, (∀ v, (x, v) ∉ binds) → bindL kindOf binds m x = m x
  | [], _, _ => rfl
  | (n, v) :: r, m, h => by
    unfold bindL
    rw [bindL_out fun w hw => h w (List.mem_cons_of_mem _ hw)]
    split
    · have : x ≠ n := by rintro rfl; exact h v List.mem_cons_self
      simp [this]
    · rfl
theorem bindC_out {kindOf : Str → Option NameKind} {x : Str} : ∀ {binds : List (Str × Value)} {m : Str → Option Value}, (∀ v, (x, v) ∉ binds) → bindC kindOf binds m x = m x
  | [], _, _ => rfl
  | (n, v) :: r, m, h => by
    unfold bindC
    rw [bindC_out fun w hw => h w (List.mem_cons_of_mem _ hw)]
    split
    · rfl
    · have : x ≠ n := by rintro rfl; exact h v List.mem_cons_self
      simp [this]
theorem bindL_get {kindOf : Str → Option NameKind} {x : Str} {v : Value} : ∀ {P : List Str} {vs : List Value} {i : Nat} {m : Str → Option Value}, P.Nodup → P[i]? = some x → vs[i]? = some v → kindOf x = some .local →
    bindL kindOf (P.zip vs) m x = some v
  | [], _, _, _, _, h, _, _ => by simp at h
  | _ :: _, [], _, _, _, _, h, _ => by simp at h
  | p :: P, w :: vs, 0, m, nd, h1, h2, hk => by
    simp at h1 h2; subst h1; subst h2
    show bindL kindOf ((p, w) :: P.zip vs) m p = _
    unfold bindL
    rw [bindL_out fun v hv => (List.nodup_cons.mp nd).1 (List.of_mem_zip hv).1, if_pos hk]
    simp
  | p :: P, w :: vs, i + 1, m, nd, h1, h2, hk => by
    show bindL kindOf ((p, w) :: P.zip vs) m x = _
    unfold bindL
    exact bindL_get (i := i) (List.nodup_cons.mp nd).2 (by simpa using h1) (by simpa using h2) hk
theorem bindC_get {kindOf : Str → Option NameKind} {x : Str} {v : Value} : ∀ {P : List Str} {vs : List Value} {i : Nat} {m : Str → Option Value}, P.Nodup → P[i]? = some x → vs[i]? = some v → kindOf x ≠ some .local →
    bindC kindOf (P.zip vs) m x = some v
  | [], _, _, _, _, h, _, _ => by simp at h
  | _ :: _, [], _, _, _, _, h, _ => by simp at h
  | p :: P, w :: vs, 0, m, nd, h1, h2, hk => by
    simp at h1 h2; subst h1; subst h2
    show bindC kindOf ((p, w) :: P.zip vs) m p = _
    unfold bindC
    rw [bindC_out fun v hv => (List.nodup_cons.mp nd).1 (List.of_mem_zip hv).1, if_neg hk]
    simp
  | p :: P, w :: vs, i + 1, m, nd, h1, h2, hk => by
    show bindC kindOf ((p, w) :: P.zip vs) m x = _
    unfold bindC
    exact bindC_get (i := i) (List.nodup_cons.mp nd).2 (by simpa using h1) (by simpa using h2) hk

/-- the names' values at the entry -/
def start (N : List Str) (vs : List V) : St := vs.map some ++ List.replicate (N.length - vs.length) none

/-- the context of a def's body, at its entry; an exception leaves the frame, then lies as CX says -/
def cxOf (CX : CXT) (P : Program) (w : World) (K : PySem.W.Frag) (mg : Str → Option Value) (base : Heap) (N : List Str) (qual : Str) (scope : Scope) (f : Addr) (cd : Value) (A : Around) (outer : List Env) (s : Shared) (H : Hp) (E : XK) : Cx where
  prog := P
  w := w
  K := K
  mg := mg
  base := base
  A := A.deeper (envOfC qual scope s.heap.objs.size f cd)
  N := N
  s₀ := s
  H₀ := H
  env := envOfC qual scope s.heap.objs.size f cd
  outer := outer
  stack := envOfC qual scope s.heap.objs.size f cd :: outer
  ex := []
  calm := true
  fn := fun _ => true
  pn := []
  xe := fun e s' => wpAny (model P w) (A.deeper (envOfC qual scope s.heap.objs.size f cd)) (leaving (envOfC qual scope s.heap.objs.size f cd) e) (fun _ s'' => CX outer H s E e s'') (fun e' s'' => CX outer H s E e' s'') s'

theorem cell_has {sc : Scope} {n : Nat} {x : Str} (h : sc.names.lookup x = some .cell) : ∃ c, (cellsFrom n sc.names []).lookup x = some c := by
  have q := PySem.W.cellsFrom_some sc.names n [] (.inl h)
  exact Option.isSome_iff_exists.mp q

theorem inv_start {CX : CXT} {P : Program} {w : World} {K : PySem.W.Frag} {mg : Str → Option Value} {base : Heap} {N ps : List Str} {qual : Str} {scope : Scope} {f : Addr} {cd : Value} {A : Around} {outer : List Env} {s s1 : Shared} {H : Hp} {E : XK} {us : List Value} {vs : List V}
    (S : FnScope N ps scope) (hd : A.handled = none) (e0 : Env0 P w K mg base A outer s H) (hl : vs.length = ps.length) (r : Vals vs us)
    (x : InCallC s s.heap.objs.size (bindL (envOfC qual scope s.heap.objs.size f cd).kindOf (ps.zip us) fun _ => none) (cellsFrom (s.heap.objs.size + 1) scope.names []) (bindC (envOfC qual scope s.heap.objs.size f cd).kindOf (ps.zip us) fun _ => none) s1) :
    Inv (cxOf CX P w K mg base N qual scope f cd A outer s H E) [] (start N vs) H s1 := by
  have hpl : ps.length ≤ N.length := by have := congrArg List.length S.pre; rw [List.length_take] at this; omega
  obtain ⟨h1, tk, rfl, hk⟩ := x.done
  have noA : ∀ b : Addr, b ∉ (cxOf CX P w K mg base N qual scope f cd A outer s H E).ex := fun b z => absurd (show b ∈ ([] : List Addr) from z) (by simp)
  refine ⟨⟨e0.mod, S.kind, rfl, rfl, Nat.le_refl _, fun y z c h1 h2 => ?_, fun y hy => ?_, fun y c _ h => ?_, fun _ => hd, Around.frames_deeper e0.frames, .inr ⟨rfl, rfl⟩, fun b z => absurd z (noA b), e0.bs, e0.bsz, fun b _ _ => noA b, fun b z => absurd z (noA b), e0.funs, e0.frf⟩,
    rfl, e0.bare, Un.kept hk, ⟨_, x.toInCall.ns, fun i y v h1 h2 h3 => ?_⟩, fun y c h => ⟨_, x.cell y c h⟩, e0.hok.fresh (Nat.le_refl _), fun y c h => ?_, fun p hp => absurd (show p ∈ ([] : List (Addr × Obj)) from hp) (by simp), e0.hok.kept hk, ?_⟩
  · exact name_of_addr x.apart (PySem.mem_of_lookup h1) (PySem.mem_of_lookup h2)
  · have hy : scope.names.lookup y = some .cell ∨ scope.names.lookup y = some .free := hy
    rcases hy with hy | hy
    · exact cell_has hy
    · exact absurd rfl (S.nofree _ (PySem.mem_of_lookup hy))
  · exact Nat.le_of_lt (x.above y c (PySem.mem_of_lookup h))
  · have hi : i < vs.length := by
      unfold start at h2
      by_cases hi : i < vs.length
      · exact hi
      · rw [List.getElem?_append_right (by simpa using hi)] at h2
        rw [List.getElem?_replicate] at h2
        split at h2 <;> cases h2
    have ha : vs[i]? = some v := by
      unfold start at h2
      rw [List.getElem?_append_left (by simpa using hi), List.getElem?_map] at h2
      cases e : vs[i]? with
      | none => rw [e] at h2; cases h2
      | some a => rw [e] at h2; cases h2; rfl
    obtain ⟨u, hu, rv⟩ := r.get ha
    have hp : ps[i]? = some y := by
      rw [← S.pre, List.getElem?_take_of_lt (by omega)]; exact h1
    have ndP : ps.Nodup := by rw [← S.pre]; exact S.nd.sublist (List.take_sublist _ _)
    refine ⟨u, rv, ?_⟩
    rcases S.par y (List.mem_of_getElem? hp) with k | k
    · exact .inl ⟨k, bindL_get ndP hp hu k⟩
    · obtain ⟨c, e⟩ := cell_has (n := s.heap.objs.size + 1) k
      refine .inr ⟨.inl k, c, e, ?_⟩
      have q := x.cell y c e
      rw [bindC_get ndP hp hu (by show scope.names.lookup y ≠ _; rw [k]; decide)] at q
      exact q
  · exact e0.hok.fresh (Nat.le_of_lt (x.above y c (PySem.mem_of_lookup h)))
  · unfold start
    show _ = N.length
    rw [List.length_append, List.length_map, List.length_replicate]
    omega

/-- THE RULE: a def (or a method) of the text, by its body. The body's reading t is chosen for each entry; it is run at the parameters' values -/
theorem fn_of {CX : CXT} {P : Program} {w : World} {K : PySem.W.Frag} {mg : Str → Option Value} {base : Heap} {k : Nat} {f : Addr} {name qual : Str} {params : Arguments} {body : List Stmt} {scope : Scope} {dV kV doc pm cdv ct oc : Value} {an od : Option Addr}
    {osl : Array (Option Value)} {N ps : List Str} {sp : Sp} (lk : K.lookup f = some ⟨oc, od, .func (PySem.W.fnOf name qual params body scope dV kV doc pm an cdv ct), osl⟩) (hcd : PySem.W.codeIn K cdv qual = true) (S : FnScope N ps scope)
    (len : ∀ vs H Q E, sp vs H Q E → vs.length = ps.length)
    (hbody : ∀ (A : Around) (outer : List Env) (s : Shared) (H : Hp) (vs : List V) (Q : VK) (E : XK), Room k (A.deeper (envOfC qual scope s.heap.objs.size f cdv)) → sp vs H Q E →
      ∃ t, PSs (cxOf CX P w K mg base N qual scope f cdv A outer s H E) body t ∧ t { nx := fun _ H' => Q .non H', rt := Q } (start N vs) H) :
    FnOk P w K mg base CX (k + 1) f (PySem.W.fnOf name qual params body scope dV kV doc pm an cdv ct) ps sp := by
  refine ⟨len, fun A outer s H args us vs Q E hr e0 hb r hsp => ?_⟩
  have hl := len _ _ _ _ hsp
  have KX : K.In s.heap := e0.mod.kin.keeps fun b o e => (e0.bs b o e).1
  have lim : s.heap.NoLimit := e0.mod.nolimit.keeps fun b o e => (e0.bs b o e).1
  have hkind : ∀ y ∈ ps.zip us, scope.names.lookup y.1 = some .local ∨ (scope.names.lookup y.1 = some .cell ∧ ((cellsFrom (s.heap.objs.size + 1) scope.names []).lookup y.1).isSome = true) := fun ⟨n, v⟩ hy => by
    rcases S.par n (List.of_mem_zip hy).1 with q | q
    · exact .inl q
    · exact .inr ⟨q, PySem.W.cellsFrom_some _ _ _ (.inl q)⟩
  refine codeAny_call_function hr.depth (KX _ _ lk) rfl S.co S.gen rfl (PySem.W.codeRec_of KX hcd) (hb _ _ _ _ ?_)
  refine wpAny_newFunctionEnv_cells S.kind hkind fun env he s1 x => ?_
  subst he
  refine ⟨lim.keeps x.toInCall.keep, codeAny_func ?_⟩
  obtain ⟨t, ht, hq⟩ := hbody A outer s H vs Q E (hr.deeper _) hsp
  have I : Inv (cxOf CX P w K mg base N qual scope f cdv A outer s H E) [] (start N vs) H s1 := inv_start S hr.hd e0 hl r x
  refine wpAny_mono (ht [] s1 (start N vs) H _ I hq) (fun fl s' hs => ?_) fun e s' hs => hs
  have fin : ∀ {σ' : St} {H' : Hp} {v : V} {u : Value}, Inv (cxOf CX P w K mg base N qual scope f cdv A outer s H E) [] σ' H' s' → RelV v u → Q v H' → CE outer P w H s Q u s' :=
    fun {σ' H' v u} J rv q => ⟨v, H', J.os, J.bare, J.base, J.hok, rv, q⟩
  cases fl with
  | ret u =>
    obtain ⟨v, σ', H', J, rv, q⟩ := hs
    exact fin J rv q
  | next =>
    obtain ⟨σ', H', J, q⟩ := hs
    exact fin (v := V.non) (u := Value.none) J rfl q
  | brk =>
    obtain ⟨_, _, _, q⟩ := hs
    exact False.elim q
  | cont =>
    obtain ⟨_, _, _, q⟩ := hs
    exact False.elim q
end L2

namespace L2
open PySem PySem.Spec PyProof.Rows
section
variable {X : Cx} {x : Str} {p pos : Pos} {e : Expr} {es : List Expr} {t : TA} {id T : String} {r : List V → Hp → VK → Prop}

def tCB (r : List V → Hp → VK → Prop) (t : TA) : TE := fun σ H Q => t σ H fun vs H1 => r vs H1 Q
/-- f(e, ..), f a built-in function -/
theorem pe_callB (hc : CallR X (.builtin id) r) (hg : Gl X x) (hm : X.mg x = none) (hv : bootBuiltins x = some (.builtin id)) (ha : PA X (e :: es) t) (hn : x ≠ "__name__" := by decide) (hdb : (x == ("__debug__" : Str)) = false := by decide)
    (he : starEach (e :: es) X.env = (false, eval e X.env) :: starEach es X.env := by rfl) (hpl : (backTo pos (starEach es X.env)).any (·.1) = false := by rfl) : PE X (.Call (.Name x p) (e :: es) [] pos) (tCB r t) := by
  intro pins s σ H Q I h
  refine wpAny_Call_Name_kw (ld_blt I hg hm hv ?_ hn hdb)
  exact PyProof.Rows.callWith_builtin1 (thn (ha pos pins s σ H _ I h) fun us s1 ⟨vs, H1, I1, r1, q1⟩ => hc pins s1 σ H1 vs us Q I1 r1 q1) he hpl
/-- T(e, ..), T a built-in type -/
theorem pe_callTy (hc : CallR X (.type T) r) (hg : Gl X x) (hm : X.mg x = none) (hv : bootBuiltins x = some (.type T)) (ha : PA X (e :: es) t) (hn : x ≠ "__name__" := by decide) (hdb : (x == ("__debug__" : Str)) = false := by decide)
    (he : starEach (e :: es) X.env = (false, eval e X.env) :: starEach es X.env := by rfl) (hpl : (backTo pos (starEach es X.env)).any (·.1) = false := by rfl) : PE X (.Call (.Name x p) (e :: es) [] pos) (tCB r t) := by
  intro pins s σ H Q I h
  refine wpAny_Call_Name_kw (ld_blt I hg hm hv ?_ hn hdb)
  exact PyProof.Rows.callWith_type1 (thn (ha pos pins s σ H _ I h) fun us s1 ⟨vs, H1, I1, r1, q1⟩ => hc pins s1 σ H1 vs us Q I1 r1 q1) he hpl
end
end L2

namespace HT
open PySem PyProof.Rows

section
open PySem.SeqAt
open PySem.AutoSeq1 (wpAny_loadPart')
open PySem.MeetsSeq PySem.MeetsSeq2 PySem.MeetsSeq3

end

section
variable {prog : Program} {w : World} {A : Around} {E : Value → Shared → Prop} {s : Shared}

/-! ### t[a:b], not the whole -/
/-- a slice's bound as a place among n (d where it is left out) -/
def sIx (n d : Nat) : Option Int → Nat
  | none => d
  | some v => if v < 0 then (v + (n : Int)).toNat else min v.toNat n
theorem sIx_none (n d : Nat) : sIx n d none = d := rfl
theorem sIx_nat (n d k : Nat) : sIx n d (some (k : Int)) = min k n := by
  show (if (k : Int) < 0 then ((k : Int) + (n : Int)).toNat else min (k : Int).toNat n) = min k n
  rw [if_neg (by omega), Int.toNat_natCast]
theorem sIx_le (n d : Nat) (hd : d ≤ n) (o : Option Int) : sIx n d o ≤ n := by
  cases o with
  | none => exact hd
  | some v =>
    show (if v < 0 then (v + (n : Int)).toNat else min v.toNat n) ≤ n
    by_cases hv : v < 0
    · rw [if_pos hv]; omega
    · rw [if_neg hv]; exact Nat.min_le_right _ _
theorem clip_eq (v : Int) (n d : Nat) : (if v < 0 then max (v + (n : Int)) 0 else min v (n : Int)) = ((sIx n d (some v) : Nat) : Int) := by
  show (if v < 0 then max (v + (n : Int)) 0 else min v (n : Int)) = (((if v < 0 then (v + (n : Int)).toNat else min v.toNat n) : Nat) : Int)
  by_cases hv : v < 0
  · simp only [if_pos hv]; omega
  · simp only [if_neg hv]; omega
theorem adjust_gen (lo hi : Option Int) (n : Nat) : Builtin.Slice.sliceAdjust lo hi 1 (n : Int) = (((sIx n 0 lo : Nat) : Int), ((sIx n n hi : Nat) : Int)) := by
  have h1 : ¬ ((1 : Int) < 0) := by omega
  unfold Builtin.Slice.sliceAdjust
  simp only [h1, if_false]
  refine Prod.ext ?_ ?_
  · cases lo with
    | none => rfl
    | some v => exact clip_eq v n 0
  · cases hi with
    | none => rfl
    | some v => exact clip_eq v n n
theorem places_gen (i j : Nat) : Builtin.Slice.slicePlaces (i : Int) (j : Int) 1 = j - i := by
  unfold Builtin.Slice.slicePlaces
  have h1 : (1 : Int) > 0 := by omega
  simp only [h1, if_true, Int.ediv_one]
  split <;> omega
theorem slicePart_ {v : Value} {o : Option Int} {Q : Option Int → Shared → Prop} (p : IsPart v o) (h : Q o s) : wpAny (model prog w) A (Builtin.Slice.slicePartIndex v) Q E s := by
  cases p with
  | none => exact slicePart_none h
  | int i t => exact slicePart_int h
theorem sliceApplied_gen {sl : Addr} {vl vu : Value} {lo hi : Option Int} {n : Nat} {Q : Int × Int × Nat → Shared → Prop} (hs : s.heap.IsSliceOf sl vl vu .none) (pl : IsPart vl lo) (pu : IsPart vu hi)
    (h : Q (((sIx n 0 lo : Nat) : Int), 1, sIx n n hi - sIx n 0 lo) s) : wpAny (model prog w) A (Builtin.Slice.sliceApplied (.ref sl) (pure (n : Int))) Q E s := by
  obtain ⟨os, hos, hcs, hds⟩ := id hs
  unfold Builtin.Slice.sliceApplied Builtin.Slice.sliceFields
  refine wpAny_bind (wpAny_bind (wpAny_field hos hds (x := vl) rfl (wpAny_bind (wpAny_field hos hds (x := vu) rfl (wpAny_bind (wpAny_field hos hds (x := .none) rfl (wpAny_pure ?_)))))))
  refine wpAny_bind (slicePart_none ?_)
  show wpAny _ _ (if ((1 : Int) == 0) = true then _ else _) _ _ s
  rw [if_neg (by decide)]
  refine wpAny_bind (slicePart_ pl (wpAny_bind (slicePart_ pu (wpAny_bind (wpAny_pure ?_)))))
  show wpAny _ _ (match Builtin.Slice.sliceAdjust lo hi 1 (n : Int) with | (lo, hi) => pure (lo, (1 : Int), Builtin.Slice.slicePlaces lo hi 1)) _ _ s
  rw [adjust_gen lo hi n]
  show wpAny _ _ (pure (((sIx n 0 lo : Nat) : Int), (1 : Int), Builtin.Slice.slicePlaces ((sIx n 0 lo : Nat) : Int) ((sIx n n hi : Nat) : Int) 1)) _ _ s
  rw [places_gen]
  exact wpAny_pure h
theorem pick_gen (xs : Array Value) (i k : Nat) : ((List.range k).filterMap fun (m : Nat) => xs[((i : Int) + (m : Int) * 1).toNat]?).toArray = ((xs.toList.drop i).take k).toArray := by
  have e : (fun (m : Nat) => xs[((i : Int) + (m : Int) * 1).toNat]?) = fun m => xs[i + m]? := by
    funext m
    have : ((i : Int) + (m : Int) * 1).toNat = i + m := by omega
    rw [this]
  rw [e]
  have := pick_run xs i k
  rw [List.filterMap_map] at this
  have e2 : ((fun x => xs[x]?) ∘ fun x => i + x) = fun m => xs[i + m]? := rfl
  rw [e2] at this
  rw [this]

theorem getItem_tuple_cut {t sl : Addr} {items : Array Value} {vl vu : Value} {lo hi : Option Int} {Q : Value → Shared → Prop} (ht : IsTup s.heap t items) (hs : s.heap.IsSliceOf sl vl vu .none) (pl : IsPart vl lo) (pu : IsPart vu hi)
    (hw : ¬ (sIx items.size 0 lo = 0 ∧ sIx items.size items.size hi = items.size))
    (h : Q (.ref s.heap.objs.size) { s with heap := s.heap.push { cls := .type "tuple", data := .seq ((items.toList.drop (sIx items.size 0 lo)).take (sIx items.size items.size hi - sIx items.size 0 lo)).toArray } })
    (hsz : items.size ≤ sizeLine) : wpAny (model prog w) A (getItem (.ref t) (.ref sl)) Q E s := by
  have htake : sizeOk (.seq ((items.toList.drop (sIx items.size 0 lo)).take (sIx items.size items.size hi - sIx items.size 0 lo)).toArray) := by
    show ((items.toList.drop (sIx items.size 0 lo)).take (sIx items.size items.size hi - sIx items.size 0 lo)).toArray.size ≤ sizeLine
    rw [List.size_toArray, List.length_take, List.length_drop, Array.length_toList]
    omega
  have hj : sIx items.size items.size hi ≤ items.size := sIx_le _ _ (Nat.le_refl _) hi
  obtain ⟨os, hos, hcs, hds⟩ := id hs
  have hTs : s.TypeIs (.ref sl) "slice" := ⟨os, hos, hcs⟩
  unfold getItem
  try with_reducible refine wpAny_holding ?_
  first | refine wpAny_bind (wpAny_pure ?_) | skip
  refine wpAny_bind (wpAny_sequenceKey ht.typeIs (by decide) ?_)
  refine wpAny_bind (wpAny_callSpecial?_slot (name := Str.ofString "__getitem__") ht.typeIs PyProof.Rows.slot_tuple_getitem
    (wpAny_call_entry PyProof.Rows.slot_tuple_getitem ht.typeIs entry_tuple_getitem ?_ (args_tuple_getitem _ _)))
  show wpAny _ _ (Builtin.Tuple.tupleItemsOf (.ref t) >>= _) _ _ s
  refine wpAny_bind (tupleItemsOf_ ht ?_)
  refine wpAny_bind (wpAny_typeOf hTs ?_)
  rw [if_pos (by decide)]
  refine wpAny_bind (sliceApplied_gen hs pl pu ?_)
  have hno : ¬ ((((sIx items.size 0 lo : Nat) : Int) == 0 && (1 : Int) == 1 && (sIx items.size items.size hi - sIx items.size 0 lo) == items.size) = true) := by
    intro q
    rw [Bool.and_eq_true, Bool.and_eq_true] at q
    have q1 : ((sIx items.size 0 lo : Nat) : Int) = 0 := eq_of_beq q.1.1
    have q2 : sIx items.size items.size hi - sIx items.size 0 lo = items.size := eq_of_beq q.2
    exact hw ⟨by omega, by omega⟩
  show wpAny _ _ (if (((sIx items.size 0 lo : Nat) : Int) == 0 && (1 : Int) == 1 && (sIx items.size items.size hi - sIx items.size 0 lo) == items.size) = true then _ else _) _ _ s
  rw [if_neg hno, pick_gen]
  first
    | exact wpAny_bind (m := Builtin.Tuple.tupleExact _) (wpAny_newObj_type (wpAny_pure ⟨_, rfl, wpAny_pure h⟩) htake)
    | exact wpAny_bind (m := Builtin.Tuple.tupleExact _) (wpAny_newObj_type (wpAny_bind (wpAny_pure (wpAny_pure ⟨_, rfl, wpAny_pure h⟩))) htake)
    | exact wpAny_bind (wpAny_bind (m := Builtin.Tuple.tupleExact _) (wpAny_newObj_type (wpAny_pure (wpAny_pure ⟨_, rfl, wpAny_pure h⟩)) htake))
    | exact wpAny_bind (wpAny_bind (m := Builtin.Tuple.tupleExact _) (wpAny_newObj_type (wpAny_pure ⟨_, rfl, wpAny_pure h⟩) htake))
end
end HT

namespace L2
open PySem PySem.Spec PyProof.Rows

/-! ### the parts of a slice -/
abbrev TO := St → Hp → (Option Int → Hp → Prop) → Prop
/-- a slice's part (left out, or an int) -/
def PO (X : Cx) (e : Option Expr) (t : TO) : Prop :=
  ∀ (pins : List (Addr × Obj)) (s : Shared) (σ : St) (H : Hp) (Q : Option Int → Hp → Prop), Inv X pins σ H s → t σ H Q →
    wpAny (model X.prog X.w) X.A (evalPart e X.env) (fun u s' => ∃ o H', Inv X pins σ H' s' ∧ IsPart u o ∧ Q o H') X.xe s
def tNoPart : TO := fun _ H Q => Q none H
def tPart (t : TE) : TO := fun σ H Q => t σ H fun x H1 => ∃ i, x = .int i ∧ Q (some i) H1

section
variable {X : Cx} {e : Expr} {te : TE} {lo hi : Option Expr} {tl th : TO} {pos p2 : Pos}

theorem po_none : PO X none tNoPart := by
  intro pins s σ H Q I h
  rw [evalPart_none]
  exact wpAny_pure ⟨none, H, I, .none, h⟩
theorem po_some (h : PE X e te) : PO X (some e) (tPart te) := by
  intro pins s σ H Q I hw
  rw [evalPart_some]
  refine thn (h pins s σ H _ I hw) fun u s1 ⟨x, H1, I1, r1, q1⟩ => ?_
  obtain ⟨i, rfl, q⟩ := q1
  obtain ⟨t, rfl⟩ := r1
  exact ⟨some i, H1, I1, .int i t, q⟩

/-- what a slice of a value is, by values: the slice object stands at sl -/
def SlR (X : Cx) (r : V → Option Int → Option Int → Hp → VK → Prop) : Prop :=
  ∀ (pins : List (Addr × Obj)) (s : Shared) (σ : St) (H : Hp) (x : V) (v vl vu : Value) (lo hi : Option Int) (sl : Addr) (Q : VK), Inv X pins σ H s → RelV x v → s.heap.IsSliceOf sl vl vu .none → IsPart vl lo → IsPart vu hi → r x lo hi H Q →
    ∃ T id, typeLookup (.type T) "__getitem__" = pure (some (.builtin id)) ∧ s.TypeIs v T ∧ wpAny (model X.prog X.w) X.A (getItem v (.ref sl)) (EP X pins σ Q) X.xe s
def tSl (r : V → Option Int → Option Int → Hp → VK → Prop) (te : TE) (tl th : TO) : TE := fun σ H Q => te σ H fun x H1 => tl σ H1 fun l H2 => th σ H2 fun u H3 => r x l u H3 Q
/-- a[lo:hi], any a -/
theorem pe_slice {r : V → Option Int → Option Int → Hp → VK → Prop} (hr : SlR X r) (he : PE X e te) (hl : PO X lo tl) (hu : PO X hi th) : PE X (.Subscript e (.Slice lo hi none p2) pos) (tSl r te tl th) := by
  intro pins s σ H Q I h
  refine Subscript_ (thn (he pins s σ H _ I h) fun v s1 ⟨x, H1, I1, r1, q1⟩ => ?_)
  refine wpAny_Slice (thn (hl pins s1 σ H1 _ I1 q1) fun vl s2 ⟨l, H2, I2, pl, q2⟩ => thn (hu pins s2 σ H2 _ I2 q2) fun vu s3 ⟨u, H3, I3, pu, q3⟩ => ?_)
  rw [evalPart_none]
  refine wpAny_pure ?_
  have I4 : Inv X pins σ H3 { s3 with heap := s3.heap.push { cls := .type "slice", data := .fields #[vl, vu, .none] } } := I3.kept (t' := s3.toks) fun b ob q => Heap.get?_push_of_some _ q
  obtain ⟨T, id, hT, ht, hg⟩ := hr pins { s3 with heap := s3.heap.push { cls := .type "slice", data := .fields #[vl, vu, .none] } } σ H3 x v vl vu l u s3.heap.objs.size Q I4 r1 (Heap.IsSliceOf.new ..) pl pu q3
  show wpAny (model X.prog X.w) X.A (subscriptTail e (.Slice lo hi none p2) v (.ref s3.heap.objs.size)) (EP X pins σ Q) X.xe { s3 with heap := s3.heap.push { cls := .type "slice", data := .fields #[vl, vu, .none] } }
  exact tail_any (ops := [.ref s3.heap.objs.size, v]) ht hT hg (by with_unfolding_all rfl)

/-- the items of xs[lo:hi] -/
def cutV (xs : List V) (lo hi : Option Int) : List V := (xs.drop (HT.sIx xs.length 0 lo)).take (HT.sIx xs.length xs.length hi - HT.sIx xs.length 0 lo)
theorem cutV_length (xs : List V) (lo hi : Option Int) : (cutV xs lo hi).length ≤ xs.length := by
  unfold cutV
  rw [List.length_take, List.length_drop]
  omega
/-- t[lo:hi], not the whole of it (the whole would be t itself) -/
def rSlT (K : PySem.W.Frag) : V → Option Int → Option Int → Hp → VK → Prop := fun x lo hi H Q => ∃ a xs, x = .ref a ∧ SqT K H a xs ∧
  ¬ (HT.sIx xs.length 0 lo = 0 ∧ HT.sIx xs.length xs.length hi = xs.length) ∧ ∀ p, H p = none → Q (.ref p) (upd H p (.tup (cutV xs lo hi)))
theorem sl_tup : SlR X (rSlT X.K) := by
  intro pins s σ H x v vl vu lo hi sl Q I rx hs pl pu h
  obtain ⟨a, xs, rfl, hx, hw, q⟩ := h
  cases rx
  obtain ⟨its, r, ht, hz⟩ := I.tuple hx
  have hlen : its.toArray.size = xs.length := by rw [List.size_toArray]; exact r.length.symm
  refine ⟨"tuple", _, PyProof.Rows.slot_tuple_getitem.lookup, ht.typeIs, ?_⟩
  refine HT.getItem_tuple_cut ht hs pl pu (by rw [hlen]; exact hw) ?_ (by rw [hlen]; exact hz)
  rw [hlen]
  refine ⟨.ref s.heap.objs.size, _, I.laid (t' := s.toks) (o := .tup (cutV xs lo hi)) (fun b ob q => Heap.get?_push_of_some _ q) (Nat.le_refl _) ?_, rfl, q _ (I.hok.fresh (Nat.le_refl _))⟩
  exact ⟨Nat.le_trans (cutV_length xs lo hi) hz, _, (r.drop (HT.sIx xs.length 0 lo)).take (HT.sIx xs.length xs.length hi - HT.sIx xs.length 0 lo), IsTup.new _ _⟩

/-! ### t < u, t + u -/
end
end L2

namespace L2
open PySem PySem.Spec PyProof.Rows

/-! ### places -/
/-- the place that an index of any sign means -/
def ixN (n : Nat) (i : Int) : Option Nat := if 0 ≤ i then (if i < n then some i.toNat else none) else if -(n : Int) ≤ i then some (i + n).toNat else none
def atI {α : Type} (xs : List α) (i : Int) : Option α := (ixN xs.length i).bind fun j => xs[j]?
theorem ixN_seq {n : Nat} {i : Int} {j : Nat} (h : ixN n i = some j) : seqIndex? i n = some j ∧ j < n ∧ -(n : Int) ≤ i ∧ i < n := by
  unfold ixN at h
  by_cases h0 : 0 ≤ i
  · rw [if_pos h0] at h
    by_cases h1 : i < n
    · rw [if_pos h1] at h
      have e : i.toNat = j := Option.some.inj h
      exact ⟨by rw [seqIndex_of h0 h1, e], by omega, by omega, h1⟩
    · rw [if_neg h1] at h; cases h
  · rw [if_neg h0] at h
    by_cases h1 : -(n : Int) ≤ i
    · rw [if_pos h1] at h
      have e : (i + n).toNat = j := Option.some.inj h
      exact ⟨by rw [seqIndex_neg (by omega) h1, e], by omega, h1, by omega⟩
    · rw [if_neg h1] at h; cases h
theorem atI_get {α : Type} {xs : List α} {i : Int} {v : α} (h : atI xs i = some v) : ∃ j, seqIndex? i xs.length = some j ∧ xs[j]? = some v ∧ j < xs.length ∧ -(xs.length : Int) ≤ i ∧ i < xs.length := by
  unfold atI at h
  cases e : ixN xs.length i with
  | none => rw [e] at h; cases h
  | some j =>
    rw [e] at h
    obtain ⟨h1, h2, h3, h4⟩ := ixN_seq e
    exact ⟨j, h1, h, h2, h3, h4⟩
theorem atI_nat {α : Type} {xs : List α} {j : Nat} {v : α} (h : xs[j]? = some v) : atI xs (j : Int) = some v := by
  have hj : j < xs.length := (List.getElem?_eq_some_iff.mp h).1
  have e : ixN xs.length (j : Int) = some j := by
    unfold ixN
    rw [if_pos (by omega), if_pos (by omega)]; simp
  unfold atI; rw [e]; exact h
theorem atI_last {α : Type} (xs : List α) (v : α) : atI (xs ++ [v]) (-1) = some v := by
  have hl : (xs ++ [v]).length = xs.length + 1 := by simp
  have e : ixN (xs ++ [v]).length (-1) = some xs.length := by
    unfold ixN
    rw [hl, if_neg (by decide), if_pos (by omega)]
    congr 1
    omega
  unfold atI
  rw [e]
  show (xs ++ [v])[xs.length]? = some v
  simp

/-! ### what may be subscripted -/
/-- what stands as an index of a plain subscript -/
def PlainIx (b : Expr) : Prop := ∀ o i, subscripted b false o i = operate [o, i] (getItem o i)
/-- a subscript by values -/
def IxR (X : Cx) (r : R2) : Prop :=
  ∀ (value slice : Expr) (pins : List (Addr × Obj)) (s : Shared) (σ : St) (H : Hp) (x y : V) (v u : Value) (Q : VK), Inv X pins σ H s → RelV x v → RelV y u → r x y H Q →
    subscripted slice false v u = operate [v, u] (getItem v u) → wpAny (model X.prog X.w) X.A (subscriptTail value slice v u) (EP X pins σ Q) X.xe s
/-- a call of a builtin's method by values: the receiver, the arguments -/
def MtR (X : Cx) (id : String) (r : V → List V → Hp → VK → Prop) : Prop :=
  ∀ (pins : List (Addr × Obj)) (s : Shared) (σ : St) (H : Hp) (x : V) (xs : List V) (v : Value) (us : List Value) (Q : VK), Inv X pins σ H s → RelV x v → Vals xs us → r x xs H Q →
    wpAny (model X.prog X.w) X.A (call (.builtin id) (v :: us)) (EP X pins σ Q) X.xe s
section
variable {X : Cx} {a b : Expr} {ta tb : TE} {pos : Pos}
/-- a[b] -/
theorem pe_ix {r : R2} (hr : IxR X r) (ha : PE X a ta) (hb : PE X b tb) (hs : PlainIx b) : PE X (.Subscript a b pos) (tOp r ta tb) := by
  intro pins s σ H Q I h
  exact Subscript_ (binT ha hb I h fun v u s2 x y H2 I2 rx ry q => hr a b pins s2 σ H2 x y v u Q I2 rx ry q (hs _ _))

def rIxL (K : PySem.W.Frag) : R2 := fun x y H Q => ∃ p xs i v, x = .ref p ∧ y = .int i ∧ SqL K H p xs ∧ atI xs i = some v ∧ Q v H
def rIxT (K : PySem.W.Frag) : R2 := fun x y H Q => ∃ p xs i v, x = .ref p ∧ y = .int i ∧ SqT K H p xs ∧ atI xs i = some v ∧ Q v H
def rIxS : R2 := fun x y H Q => ∃ z i c, x = .str z ∧ y = .int i ∧ z.length ≤ sizeLine ∧ atI z.cps.toList i = some c ∧ Q (.str ⟨#[c]⟩) H
theorem ix_list : IxR X (rIxL X.K) := by
  intro value slice pins s σ H x y v u Q I rx ry h hs
  obtain ⟨p, xs, i, z, rfl, rfl, hq, he, q⟩ := h
  cases rx
  obtain ⟨t, rfl⟩ := ry
  obtain ⟨its, r, pl, hz⟩ := I.list hq
  obtain ⟨j, h1, h2, h3, h4, h5⟩ := atI_get he
  obtain ⟨w, ew, rw'⟩ := r.get h2
  have hl := r.length
  have hn := line63
  have fin : EP X pins σ Q w s := ⟨z, H, I, rw', q⟩
  by_cases h0 : 0 ≤ i
  · have hj : i.toNat = j := by
      rw [seqIndex_of h0 h5] at h1
      exact Option.some.inj h1
    exact item_listR pl.isList h0 (by omega) (by rw [hj]; simpa using ew) fin hs
  · have hj : (i + (its.toArray.size : Int)).toNat = j := by
      rw [seqIndex_neg (by omega) h4] at h1
      rw [List.size_toArray, ← hl]
      exact Option.some.inj h1
    exact subscriptTail_builtinR (x := w) pl.isList.typeIs slot_list_getitem.lookup
      (wpAny_getItem_list_neg (Q := fun r s' => r = w ∧ EP X pins σ Q r s') pl.isList (by omega) (by rw [List.size_toArray] <;> omega) (by omega) (by rw [hj]; simpa using ew) ⟨rfl, fin⟩) hs
theorem ix_tup : IxR X (rIxT X.K) := by
  intro value slice pins s σ H x y v u Q I rx ry h hs
  obtain ⟨p, xs, i, z, rfl, rfl, hq, he, q⟩ := h
  cases rx
  obtain ⟨t, rfl⟩ := ry
  obtain ⟨its, r, pl, hz⟩ := I.tuple hq
  obtain ⟨j, h1, h2, h3, h4, h5⟩ := atI_get he
  obtain ⟨w, ew, rw'⟩ := r.get h2
  have hl := r.length
  have hn := line63
  have fin : EP X pins σ Q w s := ⟨z, H, I, rw', q⟩
  exact subscriptTail_builtinR (x := w) pl.typeIs slot_tuple_getitem.lookup
    (getItem_tuple (j := j) (Q := fun r s' => r = w ∧ EP X pins σ Q r s') pl (by omega) (by omega) (by rw [List.size_toArray, ← hl]; exact h1) (by simpa using ew) ⟨rfl, fin⟩) hs
theorem ix_str : IxR X rIxS := by
  intro value slice pins s σ H x y v u Q I rx ry h hs
  obtain ⟨z, i, c, rfl, rfl, hz, he, q⟩ := h
  obtain ⟨t, rfl⟩ := rx
  obtain ⟨t', rfl⟩ := ry
  obtain ⟨j, h1, h2, h3, h4, h5⟩ := atI_get he
  have hl : z.cps.toList.length = z.length := by simp [Str.length]
  rw [hl] at h1 h4 h5
  have hn := line63
  exact tail_any (typeIs_str s z t) slot_str_getitem.lookup (getItem_str (c := c) (by
    have e1 : decide (i < -(2 ^ 63 : Int)) = false := decide_eq_false (by omega)
    have e2 : decide (i ≥ 2 ^ 63) = false := decide_eq_false (by omega)
    rw [e1, e2, Bool.or_false]) (by rw [h1]; simpa using h2) ⟨.str ⟨#[c]⟩, H, I.tok _, ⟨_, rfl⟩, q⟩) hs
/-! ### xs[i] = v, any sign -/
/-! ### slices -/
/-! ### in, not in: flat items -/
def flatV : V → Bool
  | .non => true
  | .bl _ => true
  | .int _ => true
  | .str _ => true
  | _ => false
/-- == of flat values -/
def eqV : V → V → Bool
  | .non, .non => true
  | .bl a, .bl b => a == b
  | .bl a, .int b => (if a then 1 else 0) == b
  | .int a, .bl b => a == (if b then 1 else 0)
  | .int a, .int b => a == b
  | .str a, .str b => a == b
  | _, _ => false
theorem eqAt_V {A : Around} {s : Shared} {y x : V} {u v : Value} (ry : RelV y u) (rx : RelV x v) (fy : flatV y = true) (fx : flatV x = true) : SeqAt.EqAt A s u v (eqV y x) := by
  cases y with
  | non =>
    cases ry
    cases x with
    | non => cases rx; exact SeqAt.EqAt.same _
    | bl b => cases rx; exact SeqAt.EqAt.none_bool b
    | int b => obtain ⟨t, rfl⟩ := rx; exact SeqAt.EqAt.none_int b t
    | str b => obtain ⟨t, rfl⟩ := rx; exact SeqAt.EqAt.none_str b t
    | _ => exact absurd (show false = true from fx) Bool.false_ne_true
  | bl a =>
    cases ry
    cases x with
    | non => cases rx; exact SeqAt.EqAt.bool_none a
    | bl b => cases rx; exact SeqAt.EqAt.bool_bool a b
    | int b => obtain ⟨t, rfl⟩ := rx; exact SeqAt.EqAt.bool_int a b t
    | str b => obtain ⟨t, rfl⟩ := rx; exact SeqAt.EqAt.bool_str a b t
    | _ => exact absurd (show false = true from fx) Bool.false_ne_true
  | int a =>
    obtain ⟨t', rfl⟩ := ry
    cases x with
    | non => cases rx; exact SeqAt.EqAt.int_none a t'
    | bl b => cases rx; exact SeqAt.EqAt.int_bool a t' b
    | int b => obtain ⟨t, rfl⟩ := rx; exact SeqAt.EqAt.int_int a t' b t
    | str b => obtain ⟨t, rfl⟩ := rx; exact SeqAt.EqAt.int_str a t' b t
    | _ => exact absurd (show false = true from fx) Bool.false_ne_true
  | str a =>
    obtain ⟨t', rfl⟩ := ry
    cases x with
    | non => cases rx; exact SeqAt.EqAt.str_none a t'
    | bl b => cases rx; exact SeqAt.EqAt.str_bool a t' b
    | int b => obtain ⟨t, rfl⟩ := rx; exact SeqAt.EqAt.str_int a t' b t
    | str b => obtain ⟨t, rfl⟩ := rx; exact SeqAt.EqAt.str_str a t' b t
    | _ => exact absurd (show false = true from fx) Bool.false_ne_true
  | _ => exact absurd (show false = true from fy) Bool.false_ne_true
/-- the items' answers, read off the values (a value's own answer does not lean on its token) -/
def eqU (x : V) (u : Value) : Bool := match u with
  | .none => eqV .non x
  | .bool b => eqV (.bl b) x
  | .int i _ => eqV (.int i) x
  | .str z _ => eqV (.str z) x
  | _ => false
theorem eqU_of {x y : V} {u : Value} (r : RelV y u) (f : flatV y = true) : eqU x u = eqV y x := by
  cases y with
  | non => cases r; rfl
  | bl b => cases r; rfl
  | int i => obtain ⟨t, rfl⟩ := r; rfl
  | str z => obtain ⟨t, rfl⟩ := r; rfl
  | _ => exact absurd (show false = true from f) Bool.false_ne_true
theorem any_eqU {x : V} : ∀ {xs : List V} {us : List Value}, Vals xs us → xs.all flatV = true → us.any (eqU x) = xs.any fun y => eqV y x
  | _, _, .nil, _ => rfl
  | y :: xs, u :: us, .cons r t, f => by
    rw [List.all_cons, Bool.and_eq_true] at f
    rw [List.any_cons, List.any_cons, eqU_of r f.1, any_eqU t f.2]
theorem mem_eqAt {A : Around} {s : Shared} {x : V} {v : Value} (rx : RelV x v) (fx : flatV x = true) : ∀ {xs : List V} {us : List Value}, Vals xs us → xs.all flatV = true → ∀ u ∈ us, SeqAt.EqAt A s u v (eqU x u)
  | _, _, .nil, _ => fun u hu => by cases hu
  | y :: xs, u :: us, .cons r t, f => fun u' hu => by
    rw [List.all_cons, Bool.and_eq_true] at f
    rcases List.mem_cons.mp hu with rfl | hu
    · rw [eqU_of r f.1]; exact eqAt_V r rx f.1 fx
    · exact mem_eqAt rx fx t f.2 u' hu
def inV (x : V) (xs : List V) : Bool := xs.any fun y => eqV y x
/-- x in a list or tuple of flat items -/
def rIn (K : PySem.W.Frag) (neg : Bool) : R2 := fun x y H Q => ∃ p xs, y = .ref p ∧ (SqL K H p xs ∨ SqT K H p xs) ∧ flatV x = true ∧ xs.all flatV = true ∧ Q (.bl (if neg then !inV x xs else inV x xs)) H
theorem op_in_seq : OpR X (compareOp .In) (rIn X.K false) := by
  intro pins s σ H x y v u Q I rx ry h
  obtain ⟨p, xs, rfl, hq, fx, fs, q⟩ := h
  cases ry
  rcases hq with hq | hq
  · obtain ⟨its, r, pl, hz⟩ := I.list hq
    refine SeqAt.in_listAt (eqU x) pl.isList (fun w hw => mem_eqAt rx fx r fs w (by simpa using hw)) ⟨.bl _, H, I, rfl, ?_⟩
    rw [show its.toArray.any (eqU x) = its.any (eqU x) by simp, any_eqU r fs]
    exact q
  · obtain ⟨its, r, pl, hz⟩ := I.tuple hq
    refine SeqAt.in_tupleAt (eqU x) pl (fun w hw => mem_eqAt rx fx r fs w (by simpa using hw)) ⟨.bl _, H, I, rfl, ?_⟩
    rw [show its.toArray.any (eqU x) = its.any (eqU x) by simp, any_eqU r fs]
    exact q
/-! ### len, list(x), tuple(x) of any list or tuple that is read -/
theorem call_len_seq : CallR X (.builtin "len") (fun xs H Q => ∃ p ys, xs = [.ref p] ∧ (SqL X.K H p ys ∨ SqT X.K H p ys) ∧ Q (.int ys.length) H) := by
  intro pins s σ H xs us Q I r h
  obtain ⟨p, ys, rfl, hq, q⟩ := h
  obtain ⟨u, rfl, rx⟩ := vals1 r
  cases rx
  have hn := line63
  rcases hq with hq | hq
  · obtain ⟨its, r', pl, hz⟩ := I.list hq
    have hlen := r'.length
    exact Calls.call_len_list pl.isList (by simp only [List.size_toArray] <;> omega) ⟨.int ys.length, H, I.tok _, ⟨s.toks + 1, by rw [List.size_toArray, hlen]⟩, q⟩
  · obtain ⟨its, r', pl, hz⟩ := I.tuple hq
    have hlen := r'.length
    exact len_tuple pl (by simp only [List.size_toArray] <;> omega) ⟨.int ys.length, H, I.tok _, ⟨s.toks + 1, by rw [List.size_toArray, hlen]⟩, q⟩
theorem call_len_str : CallR X (.builtin "len") (fun xs H Q => ∃ z, xs = [.str z] ∧ z.length ≤ sizeLine ∧ Q (.int z.length) H) := by
  intro pins s σ H xs us Q I r h
  obtain ⟨z, rfl, hz, q⟩ := h
  obtain ⟨u, rfl, t, rfl⟩ := vals1 r
  have hn := line63
  exact len_str (by omega) ⟨.int z.length, H, I.tok _, ⟨_, rfl⟩, q⟩
theorem call_tuple_of : CallR X (.type "tuple") (fun xs H Q => ∃ p ys, xs = [.ref p] ∧ ((SqL X.K H p ys ∧ ∀ l, H l = none → Q (.ref l) (upd H l (.tup ys))) ∨ (SqT X.K H p ys ∧ Q (.ref p) H))) := by
  intro pins s σ H xs us Q I r h
  obtain ⟨p, ys, rfl, h⟩ := h
  obtain ⟨u, rfl, rx⟩ := vals1 r
  cases rx
  rcases h with ⟨hq, q⟩ | ⟨hq, q⟩
  · obtain ⟨its, r', pl, hz⟩ := I.list hq
    have hlen := r'.length
    refine call_tuple_list pl.isList (fun h' kp => ?_) (by simp only [List.size_toArray] <;> omega)
    have I1 : Inv X pins σ H { s with heap := h' } := I.kept (t' := s.toks) kp
    have I2 : Inv X pins σ (upd H h'.objs.size (.tup ys)) { s with heap := h'.push { cls := .type "tuple", data := .seq its.toArray } } :=
      I1.laid (t' := s.toks) (fun b o e => Heap.get?_push_of_some _ e) (Nat.le_refl _) (show ObjOk X.prog X.w _ _ _ (.tup ys) from ⟨hz, its, r', IsTup.new _ _⟩)
    exact ⟨.ref h'.objs.size, _, I2, rfl, q _ (I1.hok.fresh (Nat.le_refl _))⟩
  · obtain ⟨its, r', pl, hz⟩ := I.tuple hq
    exact call_tuple_same pl ⟨.ref p, H, I, rfl, q⟩

/-! ### the call of a builtin's method: o.m(..) -/
/-- the value is of that builtin type -/
def tyV (K : PySem.W.Frag) (T : String) (x : V) (H : Hp) : Prop := match x with
  | .str _ => T = "str"
  | .int _ => T = "int"
  | .ref p => (T = "list" ∧ ∃ xs, SqL K H p xs) ∨ (T = "tuple" ∧ ∃ o, K.lookup p = some o ∧ o.cls = .type "tuple" ∧ o.dict = none) ∨
      (T = "dict" ∧ ((∃ kvs, H p = some (.dK kvs)) ∨ ∃ kvs, H p = some (.dT kvs))) ∨ (T = "set" ∧ ∃ S n, H p = some (.set S n))
  | _ => False
theorem tyV_is {pins : List (Addr × Obj)} {σ : St} {H : Hp} {s : Shared} {T : String} {x : V} {v : Value} (I : Inv X pins σ H s) (r : RelV x v) (ty : tyV X.K T x H) :
    s.TypeIs v T ∧ ∀ a, v = .ref a → ∃ ob, s.heap.get? a = some ob ∧ ob.dict = none := by
  cases x with
  | str z =>
    obtain ⟨t, rfl⟩ := r
    cases (show T = "str" from ty)
    exact ⟨typeIs_str s z t, fun _ e => nomatch e⟩
  | int i =>
    obtain ⟨t, rfl⟩ := r
    cases (show T = "int" from ty)
    exact ⟨typeIs_int s i t, fun _ e => nomatch e⟩
  | ref p =>
    cases r
    rcases ty with ⟨rfl, xs, hq⟩ | ⟨rfl, o, hk, hc, hd⟩ | ⟨rfl, hk⟩ | ⟨rfl, S, n, hk⟩
    · obtain ⟨its, _, pl, _⟩ := I.list hq
      refine ⟨pl.isList.typeIs, fun a e => ?_⟩
      cases e
      obtain ⟨o, n, e, c, hd, _⟩ := pl
      exact ⟨o, e, hd⟩
    · refine ⟨⟨o, I.kIn p o hk, hc⟩, fun a e => ?_⟩
      cases e
      exact ⟨o, I.kIn _ o hk, hd⟩
    · have z : ∃ o, s.heap.get? p = some o ∧ o.ExactDict := by
        rcases hk with ⟨kvs, hk⟩ | ⟨kvs, hk⟩
        · obtain ⟨_, _, _, _, o, _, _, e, ex, _⟩ := I.hok p _ hk
          exact ⟨o, e, ex⟩
        · exact False.elim (show ObjOk X.prog X.w H s.heap p (.dT kvs) from I.hok p _ hk)
      obtain ⟨o, e, ex⟩ := z
      refine ⟨⟨o, e, ex.1⟩, fun a e2 => ?_⟩
      cases e2
      exact ⟨o, e, ex.2.1⟩
    · obtain ⟨o, _, _, _, e, ex, _⟩ := I.hok p _ hk
      refine ⟨⟨o, e, ex.1⟩, fun a e2 => ?_⟩
      cases e2
      exact ⟨o, e, ex.2.1⟩
  | _ => exact False.elim ty
def tBM (K : PySem.W.Frag) (T : String) (r : V → List V → Hp → VK → Prop) (to : TE) (t : TA) : TE := fun σ H Q => to σ H fun x H1 => tyV K T x H1 ∧ t σ H1 fun xs H2 => r x xs H2 Q
variable {o e : Expr} {es : List Expr} {to : TE} {t : TA} {name : Str} {apos cpos : Pos} {T id : String} {r : V → List V → Hp → VK → Prop}
theorem pe_bm (pa : PlainAttrs T) (slot : Slot T name id) (hty : typeOf (.builtin id) = pure (.type "method_descriptor")) (hm : MtR X id r) (ho : PE X o to) (ha : PA X (e :: es) t)
    (hbase : attributeBase o name X.env (eval o X.env) = eval o X.env := by rfl)
    (hfew : ((backTo cpos (starEach (e :: es) X.env)).all (fun x => !x.1) && (backToKw cpos (keywordEach [] X.env)).all (fun x => x.1.isSome)
      && decide ((e :: es).length + ([] : List Keyword).length + (if ([] : List Keyword).isEmpty then 0 else 1) < 30)) = true := by rfl)
    (hline : (apos.endLine == cpos.line) = true := by rfl) (hs : starEach (e :: es) X.env = (false, eval e X.env) :: starEach es X.env := by rfl) (hplain : (backTo cpos (starEach es X.env)).any (·.1) = false := by rfl) :
    PE X (.Call (.Attribute o name apos) (e :: es) [] cpos) (tBM X.K T r to t) := by
  intro pins s σ H Q I h
  refine wpAny_Call_method_late hbase hfew hline rfl (thn (ho pins s σ H _ I h) fun v s1 ⟨x, H1, I1, r1, ty, q1⟩ => ?_)
  obtain ⟨h1, h2⟩ := tyV_is I1 r1 ty
  refine ⟨T, id, pa, slot, hty, h1, h2, ?_⟩
  have hA := ha cpos pins s1 σ H1 _ I1 q1
  rw [hs] at hA ⊢
  refine Calls.callWith_builtin (by show (false || (backTo cpos (starEach es X.env)).any (·.1)) = false; rw [hplain] <;> rfl) (Calls.evalArgs_plain ?_)
  exact thn hA fun us s2 ⟨vs, H2, I2, r2, q2⟩ => hm pins s2 σ H2 x vs v us Q I2 r1 r2 q2
/- xs.append(e), list.index on a module's tuple .. are MtR facts of 06m -/
end
end L2

namespace L2
open PySem PySem.Spec PyProof.Rows

def MtM (X : Cx) (id : String) (r : V → List V → Hp → VK → Prop) : Prop :=
  ∀ (pins : List (Addr × Obj)) (s : Shared) (σ : St) (H : Hp) (x : V) (xs : List V) (v : Value) (us : List Value) (Q : VK), Inv X pins σ H s → RelV x v → Vals xs us → r x xs H Q →
    wpAny (model X.prog X.w) X.A (call (.builtin id) (v :: us)) (EP X pins σ Q) X.xe s

/-! ### lists of values -/
theorem Vals.one : ∀ {x : V} {us : List Value}, Vals [x] us → ∃ u, us = [u] ∧ RelV x u
  | _, _, .cons r .nil => ⟨_, rfl, r⟩
theorem Vals.two : ∀ {x y : V} {us : List Value}, Vals [x, y] us → ∃ u v, us = [u, v] ∧ RelV x u ∧ RelV y v
  | _, _, _, .cons r (.cons q .nil) => ⟨_, _, rfl, r, q⟩
theorem Vals.rep {xs : List V} {us : List Value} (h : Vals xs us) : ∀ k : Nat, Vals (List.replicate k xs).flatten (List.replicate k us).flatten
  | 0 => .nil
  | k + 1 => by
    rw [List.replicate_succ, List.replicate_succ, List.flatten_cons, List.flatten_cons]
    exact Vals.append h (Vals.rep h k)
theorem foldl_rep (its : List Value) : ∀ (k : Nat) (acc : List Value),
    List.foldl (fun x1 x2 => x1 ++ x2) acc.toArray (List.replicate k its.toArray) = (acc ++ (List.replicate k its).flatten).toArray
  | 0, acc => by simp
  | k + 1, acc => by
    have e : acc.toArray ++ its.toArray = (acc ++ its).toArray := by simp
    have e2 : (acc ++ its) ++ (List.replicate k its).flatten = acc ++ (List.replicate (k + 1) its).flatten := by
      rw [List.replicate_succ, List.flatten_cons, List.append_assoc]
    rw [← e2, ← foldl_rep its k (acc ++ its), ← e, List.replicate_succ, List.foldl_cons]

section
variable {X : Cx} {pins : List (Addr × Obj)} {σ : St} {H : Hp} {s : Shared} {l b : Addr} {xs ys zs : List V}

/-! ### the two steps: a tracked list is rewritten, a new list is laid -/
theorem Inv.lset {its its' : List Value} {n : Nat} {f : Array Value → Array Value} {t' : Nat} (I : Inv X pins σ H s) (hH : H l = some (.lst xs))
    (e : s.heap.get? l = some { cls := .type "list", data := .seq its.toArray n }) (hf : f its.toArray = its'.toArray) (hv : Vals ys its') (hz : ys.length ≤ sizeLine) :
    Inv X pins σ (upd H l (.lst ys)) { s with heap := s.heap.update l (Obj.mapSeq f), toks := t' } := by
  have q := PySem.IsL.update e f
  rw [hf] at q
  refine I.write (x := l) (e := l) (by rw [hH]; exact trivial) (.inl rfl) (fun b' u hb hu => (Heap.get?_update_other s.heap (Obj.mapSeq f) (Ne.symm hb)).trans hu) ⟨_, q⟩ ?_
  exact ⟨hz, its', _, hv, q⟩
theorem Inv.lnew {its : List Value} {t' : Nat} (I : Inv X pins σ H s) (hv : Vals ys its) (hz : ys.length ≤ sizeLine) :
    Inv X pins σ (upd H s.heap.objs.size (.lst ys)) { s with heap := s.heap.push { cls := .type "list", data := .seq its.toArray }, toks := t' } :=
  I.laid (fun _ _ q => Heap.get?_push_of_some _ q) (Nat.le_refl _) ⟨hz, its, 0, hv, Heap.get?_push_size _ rfl⟩
theorem Inv.fresh (I : Inv X pins σ H s) : H s.heap.objs.size = none := I.hok.fresh (Nat.le_refl _)
theorem Inv.lstM (I : Inv X pins σ H s) (hH : H l = some (.lst xs)) : xs.length ≤ sizeLine ∧ ∃ (its : List Value) (n : Nat), Vals xs its ∧ xs.length = its.length ∧ s.heap.get? l = some { cls := .type "list", data := .seq its.toArray n } := by
  obtain ⟨z, its, n, r, e⟩ := I.hok l _ hH
  exact ⟨z, its, n, r, r.length, e⟩

theorem notLongL {n : Nat} (h : n ≤ sizeLine) : Builtin.List.listTooLong n = false := by
  unfold Builtin.List.listTooLong
  exact decide_eq_false (by omega)
end

section
variable {X : Cx}

/-! ### methods -/
def rAppend : V → List V → Hp → VK → Prop := fun x vs H Q => ∃ l xs y, x = .ref l ∧ vs = [y] ∧ H l = some (.lst xs) ∧ xs.length < sizeLine ∧ Q .non (upd H l (.lst (xs ++ [y])))
theorem mt_append : MtM X "list.append" rAppend := by
  intro pins s σ H x vs v us Q I rx rv h
  obtain ⟨l, xs, y, rfl, rfl, hH, hz, q⟩ := h
  cases rx
  obtain ⟨u, rfl, ru⟩ := rv.one
  obtain ⟨z, its, n, r, hl, e⟩ := I.lstM hH
  refine call_meets F.slot_list_append ⟨_, e, rfl⟩ F.entry_list_append (F.args_list_append_2 _ _) (PySem.list_append l its.toArray n u (by rw [List.size_toArray]; omega)) ⟨e, ?_⟩
  refine ⟨.non, _, I.lset (its' := its ++ [u]) hH e (by simp) (r.append (.cons ru .nil)) ?_, rfl, q⟩
  rw [List.length_append, List.length_singleton]
  omega

def rExtend : V → List V → Hp → VK → Prop := fun x vs H Q => ∃ l b xs zs, x = .ref l ∧ vs = [.ref b] ∧ H l = some (.lst xs) ∧ H b = some (.lst zs) ∧ xs.length + zs.length ≤ sizeLine ∧ Q .non (upd H l (.lst (xs ++ zs)))
theorem mt_extend : MtM X "list.extend" rExtend := by
  intro pins s σ H x vs v us Q I rx rv h
  obtain ⟨l, b, xs, zs, rfl, rfl, hH, hB, hz, q⟩ := h
  cases rx
  obtain ⟨u, rfl, ru⟩ := rv.one
  cases ru
  obtain ⟨z, its, n, r, hl, e⟩ := I.lstM hH
  obtain ⟨z2, its2, n2, r2, hl2, e2⟩ := I.lstM hB
  have hsz : its.toArray.size + its2.toArray.size ≤ sizeLine := by rw [List.size_toArray, List.size_toArray]; omega
  have hlong : ¬ (!its.toArray.isEmpty && Builtin.List.listTooLong (its.toArray.size + its2.toArray.size)) = true := by
    rw [notLongL hsz, Bool.and_false]
    exact Bool.false_ne_true
  refine call_meets F.slot_list_extend ⟨_, e, rfl⟩ F.entry_list_extend (F.args_list_extend_2 _ _)
    (AutoSeq1.list_extend_list_list_0 l its.toArray n b its2.toArray n2 hlong (by rw [List.size_toArray]; omega) (by omega)) ⟨e, e2, ?_⟩
  refine ⟨.non, _, I.lset (its' := its ++ its2) hH e (by simp) (r.append r2) ?_, rfl, q⟩
  rw [List.length_append]
  omega

/-! ### list + list, list += list, list * int -/
def rCat : R2 := fun x y H Q => ∃ l b xs zs, x = .ref l ∧ y = .ref b ∧ H l = some (.lst xs) ∧ H b = some (.lst zs) ∧ xs.length + zs.length ≤ sizeLine ∧ ∀ p, H p = none → Q (.ref p) (upd H p (.lst (xs ++ zs)))
theorem op_cat : OpR X (binaryOp .Add) rCat := by
  intro pins s σ H x y v u Q I rx ry h
  obtain ⟨l, b, xs, zs, rfl, rfl, hH, hB, hz, q⟩ := h
  cases rx
  cases ry
  obtain ⟨z, its, n, r, hl, e⟩ := I.lstM hH
  obtain ⟨z2, its2, n2, r2, hl2, e2⟩ := I.lstM hB
  refine PySem.P.add_list e e2 ?_ (by rw [List.size_toArray, List.size_toArray]; omega)
  have ea : its.toArray ++ its2.toArray = (its ++ its2).toArray := by simp
  rw [ea]
  exact ⟨.ref _, _, I.lnew (t' := s.toks) (r.append r2) (by rw [List.length_append]; omega), rfl, q _ I.fresh⟩
/-- a list times an int (a negative one is nothing) -/
def rRep : R2 := fun x y H Q => ∃ l k xs, x = .ref l ∧ y = .int k ∧ H l = some (.lst xs) ∧ -(2 ^ 63) ≤ k ∧ k < 2 ^ 63 ∧ xs.length * k.toNat ≤ sizeLine ∧
  ∀ p, H p = none → Q (.ref p) (upd H p (.lst (List.replicate k.toNat xs).flatten))
theorem len_rep {α : Type} (xs : List α) (k : Nat) : (List.replicate k xs).flatten.length = k * xs.length := by
  induction k with
  | zero => simp
  | succ k ih => rw [List.replicate_succ, List.flatten_cons, List.length_append, ih, Nat.succ_mul, Nat.add_comm]
theorem op_rep : OpR X (binaryOp .Mult) rRep := by
  intro pins s σ H x y v u Q I rx ry h
  obtain ⟨l, k, xs, rfl, rfl, hH, h1, h2, hz, q⟩ := h
  cases rx
  obtain ⟨t, rfl⟩ := ry
  obtain ⟨z, its, n, r, hl, e⟩ := I.lstM hH
  have hlen : its.toArray.size * k.toNat ≤ sizeLine := by rw [List.size_toArray, ← hl]; exact hz
  have hcap : ¬ its.toArray.size * k.toNat > (2 ^ 63 - 1) / 8 := by
    have : (sizeLine : Nat) ≤ (2 ^ 63 - 1) / 8 := by decide
    omega
  have hfit : ¬ (!Builtin.List.listFitsIndex k) = true := by
    rw [fitsIndex_both h1 h2]
    exact Bool.false_ne_true
  have hlong : ¬ Builtin.List.listTooLong (its.toArray.size * k.toNat) = true := by
    rw [notLongL hlen]
    exact Bool.false_ne_true
  have hnew : List.foldl (fun x1 x2 => x1 ++ x2) #[] (List.replicate (if its.toArray.isEmpty = true then 0 else k.toNat) its.toArray) = (List.replicate k.toNat its).flatten.toArray := by
    have f0 : ∀ m : Nat, List.foldl (fun x1 x2 => x1 ++ x2) #[] (List.replicate m its.toArray) = (List.replicate m its).flatten.toArray := fun m => by
      have := foldl_rep its m []
      rw [List.nil_append] at this
      exact this
    rw [f0]
    cases its with
    | nil => simp
    | cons a r' => rw [if_neg (by simp)]
  refine wpAny_binaryOp_repeat_ref (T := "list") (U := "int") (by decide) ⟨_, e, rfl⟩ (fun s' => typeIs_int s' k t) noFill_list_mul F.fills_int_mul F.slot_int_rmul repeat_list F.slot_int_index.lookup
    (call_meets F.slot_int_rmul (typeIs_int s k t) F.entry_int_rmul (F.args_int_rmul_2 _ _) (int___rmul___int_list k t l its.toArray n)
      ⟨e, rfl, ⟨_, e, rfl⟩, call_meets F.slot_list_mul ⟨_, e, rfl⟩ F.entry_list_mul (F.args_list_mul_2 _ _) (AutoListH.list___mul___list_int_3 l its.toArray n k t hfit hcap hlong) ⟨e, ?_⟩⟩)
  rw [hnew]
  exact ⟨.ref _, _, I.lnew (t' := s.toks) (r.rep k.toNat) (by rw [len_rep, Nat.mul_comm]; exact hz), rfl, q _ I.fresh⟩

/-! ### del xs[i] -/
end

/-! ### xs[a:b] = ys -/
section
variable {prog : Program} {w : World} {A : Around} {E : Value → Shared → Prop} {s : Shared}
set_option maxRecDepth 100000 in
end

section
variable {X : Cx}
end
end L2

namespace Att
open PySem PySem.W PySem.Calls PyProof.Rows

/-! ### the script -/
theorem ints_of_wellAll {P : Params} {h : Heap} : ∀ (ns : List Int) (vs : List Value), WellAll P h vs (ns.map WData.int) → IntsAre vs ns := by
  intro ns
  induction ns with
  | nil =>
    intro vs w
    rw [List.map_nil] at w
    cases w
    exact .nil
  | cons n ns ih =>
    intro vs w
    rw [List.map_cons] at w
    cases w with
    | cons a b =>
      cases a
      exact .cons _ _ (ih _ b)

theorem script_of {l : OpenLaw} {n : Nat} (hn : l.most = some n) {P : Params} {h : Heap} {args : List WData} {vals : List Value}
    (hpre : l.row.toRowW.claim.pre args = true) (hwl : WellAll P h vals args) :
    ∃ a vs ns, vals = [Value.ref a] ∧ args = [WData.list (ns.map WData.int)] ∧ h.get? a = some { cls := .type "list", data := .seq vs.toArray } ∧ IntsAre vs ns ∧ ns.length ≤ n := by
  have hsh : WShape.hasAll [] args [.list .int] = true := (pre_splitW hpre).1
  have hc : l.pre.holds [] { args := args } = true := (pre_splitW hpre).2
  obtain ⟨d, r, rfl, h1, h2⟩ := hasAllW_cons hsh
  obtain rfl := hasAllW_nil h2
  obtain ⟨xs, rfl, h3⟩ := hasW_list h1
  obtain ⟨ns, rfl⟩ := items_int h3
  have hlen : ns.length ≤ n := by
    unfold OpenLaw.pre at hc
    have h4 : (WTm.not (.lt (.lit (.int (n : Int))) (.len (.arg 0)))).holds [] { args := [.list (ns.map .int)] } = true := by
      have h4 := (holds_andW hc).1
      rw [hn] at h4
      exact h4
    have h5 := condW_of h4 (w_not (w_lt w_lit (w_len_list (w_arg rfl))))
    rw [List.length_map] at h5
    refine Nat.le_of_not_lt fun q => ?_
    have q' : (n : Int) < ((ns.length : Nat) : Int) := by omega
    first
      | (rw [decide_eq_true q'] at h5; exact absurd h5 (by decide))
      | (simp at h5; omega)
  cases hwl with
  | cons w1 w2 =>
    cases w2
    cases w1 with
    | list ho hall => exact ⟨_, _, ns, rfl, rfl, ho, ints_of_wellAll ns _ hall, hlen⟩

theorem post_true (l : OpenLaw) (args : List WData) : l.row.toRowW.claim.post args (.bool true) args = true :=
  postW_of (r := l.row.toRowW) (X := (true == true))
    (show WShape.has [] (.bool true) .bool = true by first | rfl | decide | simp [WShape.has, WShape.arms, WShape.armsAll])
    (show (WTm.eq .res (.lit (.bool true))).value [] { args := args, res := some (.bool true), after := args } = some (.bool (true == true)) from w_eq_bool (w_res rfl) w_lit) rfl

/-! ### the attachment: holds_open's last premise (the goal 'hc' behind k_head) from a wpAny of the law's body -/
/-- the same from a codeAny of the CALL (for a layer whose function contracts speak of calls) -/
theorem attach_call {l : OpenLaw} {n : Nat} {q : Program} {loose : List Str} {XP : (Str → Option Value) → Heap → Prop} {YP : World → Heap → Prop} {d : DefRec}
    (hn : l.most = some n) (hdf : d.params.defaults = [])
    (call : ∀ (w : World) (s₀ s₁ : Shared) (mg mb : Str → Option Value) (fa : Addr) (o : Obj) (pm cd doc : Value) (a : Addr) (vs : List Value) (ns : List Int),
      Ground q loose [] XP w s₀ mg mb s₁.heap → YP w s₁.heap →
      s₁.heap.get? fa = some o → o.data = .func (docDef d.name d.params d.body d.scope pm cd doc) → s₁.heap.CodeRec cd d.name → mg d.name = some (.ref fa) →
      s₁.heap.get? a = some { cls := .type "list", data := .seq vs.toArray } → IntsAre vs ns → ns.length ≤ n → s₁.gens = #[] →
      codeAny (model l.prog w) callerA (.call (.ref fa) ⟨[.ref a], []⟩) (fun r s' => r = .ok (.ret (.bool true)) ∧ OldK s₁.heap s'.heap ∧ s'.os = s₁.os ∧ AllBare s'.gens) s₁) :
    WalkO q loose XP YP l.row.toRowW d [] (fun f vs => PySem.call f vs) := by
  intro w s₀ s₁ mg mb G Y fa o pm cd doc dV kV ho hd hcd hD hmg hg args vals as hpre hlay hrd hwl hlo
  obtain rfl : dV = .none := Dflts.none hD hdf
  obtain rfl : kV = .none := Dflts.noKw hD
  obtain ⟨a, vs, ns, rfl, rfl, hobj, hints, hlen⟩ := script_of hn hpre hwl
  refine enter_call (codeAny_mono (call w s₀ s₁ mg mb fa o pm cd doc a vs ns G Y ho (fd_plain hd) hcd hmg hobj hints hlen hg) fun r s' hq => ?_)
  obtain ⟨rfl, h2, h3, h4⟩ := hq
  exact ⟨.inl ⟨.bool true, .bool true, [], rfl, fun _ => rfl, .bool true, post_true l _, fun _ => ⟨List.Pairwise.nil, fun _ hm => (nomatch hm)⟩⟩, h2, h3, h4⟩

/-! ### rules over ANY heap (no ledger) from facts about the written part K: the library's own take a ledger (News) for what they write -/
section
variable {prog : Program} {w : World} {A : Around} {E : Value → Shared → Prop} {s : Shared} {K : Frag}

/-! the whole heap as the ledger: makes every rule that writes through a ledger a rule over any heap -/
end
end Att

namespace L2
open PySem PySem.Spec PyProof.Rows

theorem vals_ints : ∀ {vs : List Value} {ns : List Int}, IntsAre vs ns → Vals (ns.map V.int) vs
  | _, _, .nil => .nil
  | _, _, .cons n t h => .cons ⟨t, rfl⟩ (vals_ints h)

/-- nothing is tracked but the script, known to the object (or it is an object of the module) -/
def Only (H : Hp) : Prop := ∀ b, H b = none ∨ ∃ o xs, H b = some (.frz o (.lst xs))

/-- THE HEAD: the law's promise, at the heap behind the top. F, the promise of the law's def, may use that base is part of the heap (so K.In base, base.Ns mainGlobals mg stand in Mod) -/
theorem law_call {P : Program} {w : World} {K : PySem.W.Frag} {mg mb : Str → Option Value} {CX : CXT} {k : Nat} {fa a : Addr} {fd : FuncData} {x : Str} {sp : Sp} {s₁ : Shared} {vs : List Value} {ns : List Int}
    (KX : K.In s₁.heap) (hns : s₁.heap.Ns mainGlobals mg) (hb : s₁.heap.Ns builtinsNs mb) (hbb : ∀ x : Str, x ≠ "__name__" → mb x = bootBuiltins x) (hlim : s₁.heap.NoLimit) (hg : s₁.gens = #[])
    (ha : s₁.heap.get? a = some { cls := .type "list", data := .seq vs.toArray }) (hi : IntsAre vs ns) (hl : ns.length ≤ sizeLine) (hr : Room k callerA)
    (F : ∀ base : Heap, K.In base → base.Ns mainGlobals mg → FnOk P w K mg base CX k fa fd [x] sp) (hbind : ∀ (s : Shared) (u : Value), BindsTo s fd ⟨[u], []⟩ [(x, u)])
    (hsp : ∀ H : Hp, Only H → SqL K H a (ns.map V.int) → sp [.ref a] H (fun v _ => v = .bl true) fun _ _ _ => False)
    (hCX : ∀ H e s', CX [] H s₁ (fun _ _ _ => False) e s' → False) :
    codeAny (model P w) callerA (.call (.ref fa) ⟨[.ref a], []⟩) (fun r s' => r = .ok (.ret (.bool true)) ∧ OldK s₁.heap s'.heap ∧ s'.os = s₁.os ∧ AllBare s'.gens) s₁ := by
  have rv := vals_ints hi
  have lenV := hi.length
  -- from an abstract heap in which nothing but the script may be tracked
  have core : ∀ H : Hp, Only H → SqL K H a (ns.map V.int) → HOk P w H s₁.heap → (∀ b, H b ≠ none → b = a) → (H a ≠ none → K.lookup a = none) →
      codeAny (model P w) callerA (.call (.ref fa) ⟨[.ref a], []⟩) (fun r s' => r = .ok (.ret (.bool true)) ∧ OldK s₁.heap s'.heap ∧ s'.os = s₁.os ∧ AllBare s'.gens) s₁ := by
    intro H hO hS hok hA hK
    have base_of : ∀ {b : Addr} {o : Obj}, s₁.heap.get? b = some o → H b = none → (hidT s₁.heap H).get? b = some o := fun e n => hidT_get e n
    have noA : ∀ {b : Addr} {o : Obj} {es : Array DictEntry} {ep : Nat}, s₁.heap.get? b = some o → o.data = .dict es ep → H b = none := fun {b o es ep} e d => by
      cases q : H b with
      | none => rfl
      | some u =>
        have e' : b = a := hA b (by rw [q]; simp)
        subst e'
        rw [ha] at e; cases e
        have d' : Data.seq vs.toArray _ = Data.dict es ep := d
        cases d'
    have nsK : ∀ {b : Addr} {m : Str → Option Value}, s₁.heap.Ns b m → (hidT s₁.heap H).Ns b m := fun {b m} ⟨o, es, ep, e, d, r⟩ => ⟨o, es, ep, base_of e (noA e d), d, r⟩
    have hKb : K.In (hidT s₁.heap H) := fun b o e => base_of (KX b o e) (by
      cases q : H b with
      | none => rfl
      | some u =>
        have e' : b = a := hA b (by rw [q]; simp)
        subst e'
        rw [hK (by rw [q]; simp)] at e; cases e)
    have hM : Mod K mg (hidT s₁.heap H) := ⟨hKb, nsK hns, ⟨mb, nsK hb, hbb⟩, let ⟨mc, h1, h2⟩ := hlim; ⟨mc, nsK h1, h2⟩⟩
    have e0 : Env0 P w K mg (hidT s₁.heap H) callerA [] s₁ H := ⟨rfl, hM, fun b o e => of_hidT e, Nat.le_of_eq (hidT_size _ _), trivial, fun b hb => absurd (show b ∈ ([] : List Addr) from hb) (by simp), hok, .of_eq hg⟩
    refine codeAny_mono ((F _ hKb (nsK hns)).run callerA [] s₁ H ⟨[.ref a], []⟩ [.ref a] [.ref a] _ _ hr e0 (hbind s₁ (.ref a)) (.cons rfl .nil) (hsp H hO hS)) fun r s' h => ?_
    cases r with
    | error e => exact (hCX H e s' h).elim
    | ok fl =>
      cases fl with
      | next => exact False.elim h
      | brk => exact False.elim h
      | cont => exact False.elim h
      | ret u =>
        obtain ⟨v, H', os, bare, un, hok', r', q⟩ := h
        have q' : v = .bl true := q
        subst q'
        obtain rfl : u = Value.bool true := r'
        refine ⟨rfl, OldK.of_keep fun b o e => ?_, os, bare⟩
        cases q : H b with
        | none => exact un.keep b o e q (by intro z; exact absurd (show b ∈ ([] : List Addr) from z) (by simp)) (by simp)
        | some u =>
          rcases hO b with z | ⟨ob, xs, z⟩
          · rw [q] at z; cases z
          · have z2 := un.frzs b ob _ z
            obtain ⟨e1, _⟩ := hok b _ z
            obtain ⟨e2, _⟩ := hok' b _ z2
            rw [e] at e1; cases e1
            exact e2
  cases hk : K.lookup a with
  | some o =>
    -- the script is one of the module's own objects
    have e := KX a o hk
    rw [ha] at e
    cases e
    refine core (fun _ => none) (fun _ => .inl rfl) (.inr ⟨_, vs.toArray, _, hk, rfl, rfl, rfl, by rw [List.size_toArray, lenV]; exact hl, by simpa using rv⟩) (fun b u z => by have z' : (none : Option HO) = some u := z; cases z') (fun b z => absurd rfl z) fun z => absurd rfl z
  | none =>
    refine core (fun b => if b = a then some (.frz { cls := .type "list", data := .seq vs.toArray } (.lst (ns.map V.int))) else none) (fun b => ?_) (.inl (.inr ⟨{ cls := .type "list", data := .seq vs.toArray }, if_pos rfl⟩)) (fun b u z => ?_) (fun b z => ?_) fun _ => hk
    · by_cases hb : b = a
      · exact .inr ⟨_, _, if_pos hb⟩
      · exact .inl (if_neg hb)
    · by_cases hb : b = a
      · have z' := (if_pos hb).symm.trans z
        cases z'
        subst hb
        exact ⟨ha, by rw [List.length_map]; exact hl, vs, _, rv, ha⟩
      · have z' := (if_neg hb).symm.trans z
        cases z'
    · by_cases hb : b = a
      · exact hb
      · exact absurd (if_neg hb) z
end L2

namespace L2
open PySem PySem.Spec PyProof.Rows

/-- the goal that k_head leaves (case hc), from the law's promise. F gives the function object fd (K's own) once, then the promise over every base -/
theorem walk_of {l : PySem.W.OpenLaw} {n k : Nat} {q : Program} {loose : List Str} {XP : (Str → Option Value) → Heap → Prop} {YP : World → Heap → Prop} {d : DefRec} {K : Params → PySem.W.Frag} {CX : World → CXT} {sp : World → Sp} {x : Str}
    (hn : l.most = some n) (hn2 : n ≤ sizeLine) (hdf : d.params.defaults = []) (hr : Room k callerA)
    (hY : ∀ (w : World) (h : Heap), YP w h → (K w.params).In h)
    (F : ∀ (w : World) (mg : Str → Option Value) (fa : Addr) (h : Heap), (K w.params).In h → h.Ns mainGlobals mg → mg d.name = some (.ref fa) →
      ∃ fd : FuncData, (∀ (s : Shared) (u : Value), BindsTo s fd ⟨[u], []⟩ [(x, u)]) ∧
        ∀ base : Heap, (K w.params).In base → base.Ns mainGlobals mg → FnOk l.prog w (K w.params) mg base (CX w) k fa fd [x] (sp w))
    (hsp : ∀ (w : World) (H : Hp) (a : Addr) (ns : List Int), ns.length ≤ n → Only H → SqL (K w.params) H a (ns.map V.int) → sp w [.ref a] H (fun v _ => v = .bl true) fun _ _ _ => False)
    (hCX : ∀ (w : World) (H : Hp) (s : Shared) (e : Value) (s' : Shared), CX w [] H s (fun _ _ _ => False) e s' → False) :
    PySem.W.WalkO q loose XP YP l.row.toRowW d [] (fun f vs => PySem.call f vs) := by
  refine Att.attach_call hn hdf fun w s₀ s₁ mg mb fa o pm cd doc a vs ns G Y ho hd hcd hmg hobj hints hlen hg => ?_
  have KX := hY w _ Y
  obtain ⟨fd, hb, hF⟩ := F w mg fa _ KX G.T.g hmg
  exact law_call KX G.T.g G.T.b G.T.builtins G.T.nolimit hg hobj hints (Nat.le_trans hlen hn2) hr hF hb (fun H hO hS => hsp w H a ns hlen hO hS) fun H e s' => hCX w H s₁ e s'
end L2

/- THE LAST THEOREM (shape; LID, My.* are yours):
   My.Adr: a structure of the addresses that your layer names (classes, functions); My.Txt K t: a structure (Prop) of the equations over K;
   My.txt_mk : {K} {implicit addresses ..} (e1 : nsIn K mainGlobals "law" = some (some (.ref f))) (e2 : K.lookup f = some ⟨oc, od, .func (fnOf "law" "law" params body scope dV kV doc pm an cdv ct), sl⟩) (e3 : codeIn K cdv "law" = true) .. : ∃ t, My.Txt K t

set_option maxRecDepth 100000 in
set_option maxHeartbeats 0 in
theorem PySem.Challenge.cw_LID_holds : PySem.Challenge.rw_LID.Holds := by
  w_on; o_law; k_head; (case hw => w_witness2)
  k_fill
  refine L2.walk_of (l := PySem.Challenge.rw_LID) (n := 63) (k := 40) (x := "script") (CX := fun w => ..) (sp := fun _ => My.sp_law) rfl (by decide) rfl ⟨rfl, by decide, by decide⟩ (fun w h Y => PySem.W.kIn_of Y) ?F ?S ?C
  case F =>
    intro w mg fa h KX G hmg
    have T : ∃ t, My.Txt (L2.KOf KX) t := by
      dsimp only [L2.KOf]                          -- K must stand as «<heap const> w.params» for k_is
      refine' My.txt_mk ?e1 ?e2 ?e3 ..
      (case e1 => PySem.W.k_is)                    -- in the order: a name -> its address -> its object -> its parts
      (case e2 => PySem.W.k_is)
      ..
    obtain ⟨t, T⟩ := T
    have e0 := hmg.symm.trans (PySem.W.mg_of KX G T.law)
    cases e0                                       -- fa is the law's own address
    exact ⟨_, fun s u => .of_eq rfl, fun base kb nb => My.law_fn T kb nb⟩     -- if «.of_eq rfl» comes too early: refine' ⟨_, ?b, fun base kb nb => My.law_fn T kb nb⟩; exact fun s u => .of_eq rfl
  case S => exact fun w H a ns hl hO hS => ..
  case C => exact ..
(the tactic k_is has no namespace: write k_is) -/

/-! SHORT WORDS over the layer: a def of the text, its body, what a loop and a test want. -/
namespace L2
open PySem PySem.Spec PyProof.Rows

/-! ### the text by places -/
def defArgs (s : Stmt) : Arguments := match s with
  | .FunctionDef _ a _ _ _ _ _ _ _ _ => a
  | _ => { posonlyargs := [], args := [], vararg := none, kwonlyargs := [], kw_defaults := [], kwarg := none, defaults := [] }
def defBody (s : Stmt) : List Stmt := match s with
  | .FunctionDef _ _ b _ _ _ _ _ _ _ => b
  | _ => []
def defScope (s : Stmt) : Scope := match s with
  | .FunctionDef _ _ _ _ _ _ sc _ _ _ => sc
  | _ => { kind := .function, names := [], isGenerator := false, isCoroutine := false }

/-! ### no exception leaves a def -/
abbrev CX0 : CXT := fun _ _ _ _ _ _ => False
abbrev E0 : XK := fun _ _ _ => False
theorem pass0 {X : Cx} : Passes CX0 X E0 := fun _ _ _ _ _ _ _ h => h.elim

/-! ### a def (or method) of the text as it stands behind the top -/
structure Fun (K : PySem.W.Frag) (x qual : Str) (st : Stmt) (f : Addr) (fd : FuncData) : Prop where
  ex : ∃ (oc : Value) (od : Option Addr) (kV doc pm : Value) (an : Option Addr) (cdv ct : Value) (osl : Array (Option Value)),
    fd = PySem.W.fnOf x qual (defArgs st) (defBody st) (defScope st) .none kV doc pm an cdv ct ∧ K.lookup f = some ⟨oc, od, .func fd, osl⟩ ∧ PySem.W.codeIn K cdv qual = true
  kp : PySem.W.keepIn K (.ref f) = true
section
variable {P : Program} {w : World} {K : PySem.W.Frag} {mg : Str → Option Value} {base : Heap}
/-- THE RULE for a def: its body as a term of rules, and the reading of that term -/
theorem Fun.ok {x qual : Str} {st : Stmt} {f : Addr} {fd : FuncData} {N ps : List Str} {k : Nat} {sp : Sp} (F : Fun K x qual st f fd) (S : FnScope N ps (defScope st)) (len : ∀ vs H Q E, sp vs H Q E → vs.length = ps.length)
    (hbody : ∀ (cdv : Value) (A : Around) (outer : List Env) (s : Shared) (H : Hp) (vs : List V) (Q : VK) (E : XK), Room k (A.deeper (envOfC qual (defScope st) s.heap.objs.size f cdv)) → sp vs H Q E →
      ∃ t, PSs (cxOf CX0 P w K mg base N qual (defScope st) f cdv A outer s H E).nox (defBody st) t ∧ t { nx := fun _ H' => Q .non H', rt := Q } (start N vs) H) : FnOk P w K mg base CX0 (k + 1) f fd ps sp := by
  obtain ⟨oc, od, kV, doc, pm, an, cdv, ct, osl, rfl, lk, hcd⟩ := F.ex
  refine fn_of lk hcd S len fun A outer s H vs Q E hr hsp => ?_
  obtain ⟨t, h, q⟩ := hbody cdv A outer s H vs Q E hr hsp
  exact ⟨t, h.nox, q⟩
/-- how its arguments bind (no defaults): h is «fun _ _ _ _ _ _ us hl => match us, hl with | [_, _], _ => rfl», one _ a parameter -/
theorem Fun.binds {x qual : Str} {st : Stmt} {f : Addr} {fd : FuncData} {ps : List Str} (F : Fun K x qual st f fd)
    (h : ∀ (kV doc pm : Value) (an : Option Addr) (cdv ct : Value) (us : List Value), us.length = ps.length → bindArgs (PySem.W.fnOf x qual (defArgs st) (defBody st) (defScope st) .none kV doc pm an cdv ct) ⟨us, []⟩ = pure (ps.zip us)) : Binds K fd ps [] := by
  obtain ⟨oc, od, kV, doc, pm, an, cdv, ct, osl, rfl, lk, hcd⟩ := F.ex
  exact .all (h kV doc pm an cdv ct)
theorem fun_mk {x qual : Str} {st : Stmt} {f : Addr} {oc : Value} {od an : Option Addr} {osl : Array (Option Value)} {kV doc pm cdv ct : Value} (l : K.lookup f = some ⟨oc, od, .func (PySem.W.fnOf x qual (defArgs st) (defBody st) (defScope st) .none kV doc pm an cdv ct), osl⟩)
    (c : PySem.W.codeIn K cdv qual = true) (k : PySem.W.keepIn K (.ref f) = true) : Fun K x qual st f (PySem.W.fnOf x qual (defArgs st) (defBody st) (defScope st) .none kV doc pm an cdv ct) := ⟨⟨oc, od, kV, doc, pm, an, cdv, ct, osl, rfl, l, c⟩, k⟩
end
/-! ### expressions in short: the name that stands in the i-th slot -/
section
variable {X : Cx}
theorem pv (i : Nat) {x : Str} {pos : Pos} (hN : X.N[i]? = some x := by rfl) (hv : Vis X.env.scope x := by first | exact Or.inl rfl | exact Or.inr (Or.inl rfl) | exact Or.inr (Or.inr rfl)) (hd : (x == ("__debug__" : Str)) = false := by decide)
    (hcd : (x == ("__classdict__" : Str)) = false := by decide) : PE X (.Name x pos) (tVar i) := pe_var hN hv hd hcd
end

/-! ### tests -/
theorem iteF {A B : Prop} (h : B) : if false = true then A else B := by
  rw [if_neg Bool.false_ne_true]
  exact h
theorem iteT {A B : Prop} (h : A) : if true = true then A else B := by
  rw [if_pos rfl]
  exact h
theorem ite2 {c A B : Prop} [Decidable c] (h1 : c → A) (h2 : ¬ c → B) : if c then A else B := by
  by_cases h : c
  · rw [if_pos h]
    exact h1 h
  · rw [if_neg h]
    exact h2 h
theorem iteNS {c A B : Prop} [Decidable c] (hc : c) (h : B) : if (!decide c) = true then A else B := by
  rw [decide_eq_true hc]
  exact iteF h

/-! ### heaps -/
/-- all that was tracked is as it was -/
def Same (H H' : Hp) : Prop := ∀ b o, H b = some o → H' b = some o
theorem Same.refl (H : Hp) : Same H H := fun _ _ h => h
theorem Same.trans {H H1 H2 : Hp} (a : Same H H1) (b : Same H1 H2) : Same H H2 := fun c o h => b c o (a c o h)
theorem Same.free {H H' : Hp} (e : Same H H') {l : Addr} (h : H' l = Option.none) : H l = Option.none := by
  cases q : H l with
  | none => rfl
  | some o =>
    rw [e l o q] at h
    cases h
theorem Same.seq {K : PySem.W.Frag} {H H' : Hp} {a : Addr} {xs : List V} (e : Same H H') (h : SqL K H a xs) : SqL K H' a xs := by
  rcases h with (h | ⟨o, h⟩) | h
  · exact .inl (.inl (e _ _ h))
  · exact .inl (.inr ⟨o, e _ _ h⟩)
  · exact .inr h

end L2

set_option Elab.async false
set_option linter.all false
set_option maxRecDepth 100000
set_option maxHeartbeats 4000000
/-! WHAT A DEF LEAVES BEHIND: only what it hands back. -/
namespace L3
open PySem PySem.Spec PyProof.Rows L2

theorem same_upd {H : Hp} {p : Addr} {o : HO} (h : H p = none) : Same H (upd H p o) := fun b u e => by
  rw [upd_ne (ne_of_none e h)]; exact e
theorem same_to {H H' : Hp} {p : Addr} {o : HO} (s : Same H H') (h : H p = none) : Same H (upd H' p o) := fun b u e => by
  rw [upd_ne (ne_of_none e h)]; exact s b u e

def newO : HO → Prop
  | .lst _ => True
  | .tup _ => True
  | _ => False
def Rst (H H' : Hp) (P : Hp → Prop) : Prop := ∃ Hr, Same H Hr ∧ Same Hr H' ∧ (∀ a o, Hr a = some o → H a = some o ∨ newO o) ∧ P Hr
theorem Rst.same {H H' : Hp} {P : Hp → Prop} (s : Same H H') (p : P H) : Rst H H' P := ⟨H, Same.refl H, s, fun _ _ e => .inl e, p⟩
theorem Rst.one {H H' : Hp} {P : Hp → Prop} {p : Addr} {o : HO} (s : Same H H') (n : H p = none) (e : H' p = some o) (no : newO o) (q : P (upd H p o)) : Rst H H' P :=
  ⟨upd H p o, same_upd n, fun b u z => by
    by_cases hb : b = p
    · subst hb; rw [upd_same] at z; cases z; exact e
    · rw [upd_ne hb] at z; exact s b u z, fun b u z => by
    by_cases hb : b = p
    · subst hb; rw [upd_same] at z; cases z; exact .inr no
    · rw [upd_ne hb] at z; exact .inl z, q⟩
theorem Rst.more {H H1 H' : Hp} {P : Hp → Prop} (s : Same H H1) (n : ∀ a o, H1 a = some o → H a = some o ∨ newO o) (r : Rst H1 H' P) : Rst H H' P := by
  obtain ⟨Hr, s1, s2, hn, q⟩ := r
  exact ⟨Hr, s.trans s1, s2, fun a o e => by
    rcases hn a o e with z | z
    · exact n a o z
    · exact .inr z, q⟩

section
variable {P : Program} {w : World} {H Hr H' : Hp} {h h' : Heap}
theorem objOk_rst {a : Addr} {o : HO} (s1 : Same H Hr) (x0 : ObjOk P w H h a o) (x : ObjOk P w H' h' a o) : ObjOk P w Hr h' a o := by
  induction o with
  | ins C dx fs => exact ⟨s1 _ _ x0.1, x.2⟩
  | frz ob u ih => exact ⟨x.1, ih x0.2 x.2⟩
  | lst xs => exact x
  | tup xs => exact x
  | dK kvs => exact x
  | dT kvs => exact x
  | set S n => exact x
  | own y => exact x
  | xd fs => exact x
  | rng lo hi => exact x
  | tbl ps => exact x
  | met f y => exact x
  | ext φ => exact x
theorem hok_rst (e0 : HOk P w H h) (k : HOk P w H' h') (s1 : Same H Hr) (s2 : Same Hr H') (hn : ∀ a o, Hr a = some o → H a = some o ∨ newO o) : HOk P w Hr h' := fun a o e => by
  have x := k a o (s2 a o e)
  rcases hn a o e with z | z
  · exact objOk_rst s1 (e0 a o z) x
  · cases o with
    | lst xs => exact x
    | tup xs => exact x
    | _ => exact False.elim z
theorem un_rst {fs ex : List Addr} (u : Un fs ex H H' h h') (s1 : Same H Hr) (s2 : Same Hr H') : Un fs ex H Hr h h' where
  keep := u.keep
  slot := u.slot
  free := fun b o e n hx => s2.free (u.free b o e n hx)
  there := u.there
  tups := fun b xs e => s1 b _ e
  frzs := fun b o x e => s1 b _ e
  tbls := fun b ps e => ⟨#[], by rw [s1 b _ e]; simp⟩
end

section
variable {P : Program} {w : World} {K : PySem.W.Frag} {mg : Str → Option Value} {base : Heap} {CX : CXT} {k : Nat} {f : Addr} {fd : FuncData} {ps : List Str} {sp : Sp}
def SpR (sp : Sp) : Sp := fun vs H Q2 E => ∃ Q : VK, (∀ v H', Rst H H' (Q v) → Q2 v H') ∧ sp vs H Q E
theorem FnOk.rst (F : FnOk P w K mg base CX k f fd ps (SpR sp)) : FnOk P w K mg base CX k f fd ps sp :=
  ⟨fun vs H Q E h => F.len vs H (fun v H' => Rst H H' (Q v)) E ⟨Q, fun _ _ z => z, h⟩, fun A outer s H args us vs Q E hr he hb hv hs =>
    codeAny_mono (F.run A outer s H args us vs (fun v H' => Rst H H' (Q v)) E hr he hb hv ⟨Q, fun _ _ z => z, hs⟩) fun r s' hq => by
      cases r with
      | error e => exact hq
      | ok fl =>
        cases fl with
        | ret u =>
          obtain ⟨v, H', e1, e2, e3, e4, e5, Hr, s1, s2, hn, q⟩ := hq
          exact ⟨v, Hr, e1, e2, un_rst e3 s1 s2, hok_rst he.hok e4 s1 s2 hn, e5, q⟩
        | next => exact False.elim hq
        | brk => exact False.elim hq
        | cont => exact False.elim hq⟩
/-- a def that raises nothing and leaves nothing behind: its body as a term of rules, and the reading of that term -/
theorem Fun.okR {x qual : Str} {st : Stmt} {f : Addr} {fd : FuncData} {N ps : List Str} {k : Nat} {sp : Sp} (F : Fun K x qual st f fd) (S : FnScope N ps (defScope st)) (len : ∀ vs H Q E, sp vs H Q E → vs.length = ps.length)
    (hbody : ∀ (cdv : Value) (A : Around) (outer : List Env) (s : Shared) (H : Hp) (vs : List V) (Q Q2 : VK) (E : XK), Room k (A.deeper (envOfC qual (defScope st) s.heap.objs.size f cdv)) → sp vs H Q E → (∀ v H', Rst H H' (Q v) → Q2 v H') →
      ∃ t, PSs (cxOf CX0 P w K mg base N qual (defScope st) f cdv A outer s H E).nox (defBody st) t ∧ t { nx := fun _ H' => Q2 .non H', rt := Q2 } (start N vs) H) : FnOk P w K mg base CX0 (k + 1) f fd ps sp :=
  FnOk.rst (F.ok S (fun vs H Q2 E ⟨Q, _, h⟩ => len vs H Q E h) fun cdv A outer s H vs Q2 E hr ⟨Q, hq, h⟩ => hbody cdv A outer s H vs Q Q2 E hr h hq)
end
end L3

set_option Elab.async false
set_option linter.all false
set_option maxRecDepth 100000
set_option maxHeartbeats 4000000
/-! A COMPREHENSION over the layer: its block is a context of its own. -/
namespace L3
open PySem PySem.Spec PyProof.Rows L2

abbrev NE : Value → Shared → Prop := fun _ _ => False

/-- the tests of a clause -/
def PTs (X : Cx) (cs : List Expr) (t : TT) : Prop :=
  ∀ (pins : List (Addr × Obj)) (s : Shared) (σ : L2.St) (H : Hp) (Q : Bool → Hp → Prop), Inv X pins σ H s → t σ H Q →
    wpAny (model X.prog X.w) X.A (forIn cs true fun c r => if r = true then do let ok ← isTrue c X.env (eval c X.env); pure (ForInStep.yield ok) else pure (ForInStep.yield r)) (TP X pins σ Q) X.xe s
def tYes : TT := fun _ H Q => Q true H
theorem pts_nil {X : Cx} : PTs X [] tYes := fun _ _ _ H _ I h => wpAny_tests_nil ⟨H, I, h⟩
theorem pts_one {X : Cx} {c : Expr} {t : TT} (h : PT X c t) : PTs X [c] t := fun pins s σ H Q I q => wpAny_tests_one (h pins s σ H Q I q)

section
variable {prog : Program} {w : World} {A : Around} {R : Result → Shared → Prop} {s : Shared}
/-- the loop of a comprehension that raises nothing, any target -/
theorem compLoop_any {elt target iter : Expr} {ifs : List Expr} {scope : Scope} {pos : Pos} {it acc : Value} {env : Env} (I : Nat → Shared → Prop)
    (turn : ∀ n s, I n s → wpAny (model prog w) A (pyNext it) (fun r s₁ => match r with
      | none => R (.ok .next) s₁
      | some v => wpAny (model prog w) A (letOwnedTupleGo target it v) (fun _ s₀ => wpAny (model prog w) A (assign target env v) (fun _ s₂ =>
          wpAny (model prog w) A (forIn ifs true fun c r => if r = true then do let ok ← isTrue c env (eval c env); pure (ForInStep.yield ok) else pure (ForInStep.yield r)) (fun ok s₃ =>
            if ok = true then wpAny (model prog w) A (eval elt env) (fun x s₄ =>
              wpAny (model prog w) A (call (.builtin "list.append") [acc, x]) (fun _ s₅ => ∃ m, m < n ∧ I m s₅) NE s₄) NE s₃
            else ∃ m, m < n ∧ I m s₃) NE s₂) NE s₀) NE s₁) NE s)
    (n : Nat) (h : I n s) :
    codeAny (model prog w) A (.compLoop (.ListComp elt [⟨target, iter, ifs, 0⟩] scope pos) 0 it acc env) R s := by
  refine codeAny_loop rfl I (fun n s hI => ?_) n h
  show wpAny _ A ((compTurn (.ListComp elt [⟨target, iter, ifs, 0⟩] scope pos) 0 it acc env).onRaise (fun x => do noteFrame x env; theTreesLotGoes x)) _ _ s
  refine wpAny_noted (wpAny_mono (E := NE) ?_ (fun _ _ q => q) fun _ _ f => f.elim)
  rw [compTurn_list]
  refine wpAny_bind (wpAny_standAt (wpAny_bind (wpAny_mono (turn n s hI) (fun r s₁ h₁ => ?_) fun _ _ h' => h')))
  cases r with
  | none => exact wpAny_pure h₁
  | some v =>
    refine wpAny_bind (wpAny_mono h₁ (fun _ s₀ h₀ => ?_) fun _ _ h' => h')
    refine wpAny_bind (wpAny_mono h₀ (fun _ s₂ h₂ => wpAny_bind (wpAny_mono h₂ (fun ok s₃ h₃ => ?_) fun _ _ h' => h')) fun _ _ h' => h')
    cases ok with
    | false => exact wpAny_pure ⟨rfl, h₃⟩
    | true =>
      exact wpAny_bind (wpAny_bind (wpAny_mono h₃ (fun x s₄ h₄ => wpAny_bind (wpAny_mono h₄ (fun _ s₅ h₅ => wpAny_pure (wpAny_pure ⟨rfl, h₅⟩)) fun _ _ h' => h')) fun _ _ h' => h'))
end

/-! ### the closure of a block -/
theorem closure_go {env : Env} : ∀ (names : List (Str × NameKind)) (cs : List (Str × Addr)), (∀ y ∈ names, y.2 = .free → ∃ c, env.cells.lookup y.1 = some c) → (∀ x c, cs.lookup x = some c → env.cells.lookup x = some c) →
    ∃ cl, (forIn names cs (fun (y : Str × NameKind) r => if (y.2 == .free) = true then do let a ← cellOf env y.1; pure (ForInStep.yield ((y.1, a) :: r)) else pure (ForInStep.yield r)) : Sem (List (Str × Addr))) = pure cl ∧
      (∀ x c, cl.lookup x = some c → env.cells.lookup x = some c) ∧ (∀ x, (∃ c, cs.lookup x = some c) → ∃ c, cl.lookup x = some c) ∧ (∀ y ∈ names, y.2 = .free → ∃ c, cl.lookup y.1 = some c)
  | [], cs, _, h => ⟨cs, rfl, h, fun _ z => z, fun _ z => nomatch z⟩
  | y :: r, cs, hn, h => by
    by_cases hy : y.2 = .free
    · obtain ⟨c, hc⟩ := hn y List.mem_cons_self hy
      have hc' : cellOf env y.1 = pure c := by unfold cellOf; rw [hc]
      have h2 : ∀ x d, ((y.1, c) :: cs).lookup x = some d → env.cells.lookup x = some d := fun x d e => by
        rw [List.lookup_cons] at e
        by_cases hx : x = y.1
        · subst hx
          rw [show (y.1 == y.1) = true from beq_self_eq_true _] at e
          cases e
          exact hc
        · rw [show (x == y.1) = false from beq_eq_false_iff_ne.mpr hx] at e
          exact h x d e
      obtain ⟨cl, e1, e2, e3, e4⟩ := closure_go r ((y.1, c) :: cs) (fun z hz => hn z (List.mem_cons_of_mem _ hz)) h2
      refine ⟨cl, ?_, e2, fun x hx => e3 x ?_, fun z hz hf => ?_⟩
      · rw [List.forIn_cons, hy, if_pos (by decide), hc']
        exact e1
      · obtain ⟨d, hd⟩ := hx
        rw [List.lookup_cons]
        by_cases hx : x = y.1
        · exact ⟨c, by rw [show (x == y.1) = true from beq_iff_eq.mpr hx]⟩
        · exact ⟨d, by rw [show (x == y.1) = false from beq_eq_false_iff_ne.mpr hx]; exact hd⟩
      · rcases List.mem_cons.mp hz with rfl | hz
        · exact e3 z.1 ⟨c, by rw [List.lookup_cons, show (z.1 == z.1) = true from beq_self_eq_true _]⟩
        · exact e4 z hz hf
    · obtain ⟨cl, e1, e2, e3, e4⟩ := closure_go r cs (fun z hz => hn z (List.mem_cons_of_mem _ hz)) h
      refine ⟨cl, ?_, e2, e3, fun z hz hf => ?_⟩
      · rw [List.forIn_cons, if_neg (by intro q; exact hy (beq_iff_eq.mp q))]
        exact e1
      · rcases List.mem_cons.mp hz with rfl | hz
        · exact absurd hf hy
        · exact e4 z hz hf
theorem closure_ok {scope : Scope} {env : Env} (hn : ∀ y ∈ scope.names, y.2 = .free → ∃ c, env.cells.lookup y.1 = some c) :
    ∃ cl, closureFor scope env = pure cl ∧ (∀ x c, cl.lookup x = some c → env.cells.lookup x = some c) ∧ (∀ y ∈ scope.names, y.2 = .free → ∃ c, cl.lookup y.1 = some c) := by
  obtain ⟨cl, e1, e2, _, e4⟩ := closure_go (env := env) scope.names [] hn (fun x c e => by rw [List.lookup_nil] at e; cases e)
  refine ⟨cl, ?_, e2, e4⟩
  unfold closureFor
  exact (congrArg (· >>= pure) e1)

theorem relabel_back {env : Env} {x : Str} : ∀ {names : List (Str × NameKind)}, (∀ y ∈ names, y.2 ≠ .cell) →
    ((names.map fun (n, k) => if (k == NameKind.free && env.scope.kind == .function && env.kindOf n == some .cell) then (n, NameKind.cell) else (n, k)).lookup x = some .cell ∨
      (names.map fun (n, k) => if (k == NameKind.free && env.scope.kind == .function && env.kindOf n == some .cell) then (n, NameKind.cell) else (n, k)).lookup x = some .free) → names.lookup x = some .free
  | [], _, h => by rcases h with h | h <;> (rw [List.map_nil, List.lookup_nil] at h; cases h)
  | (n, k) :: r, hc, h => by
    have ih := relabel_back (env := env) (x := x) (names := r) fun y hy => hc y (List.mem_cons_of_mem _ hy)
    have hk : k ≠ .cell := hc (n, k) List.mem_cons_self
    rw [List.map_cons] at h
    rw [List.lookup_cons]
    cases hx : x == n with
    | true =>
      dsimp only
      by_cases hq : (k == NameKind.free && env.scope.kind == .function && env.kindOf n == some .cell) = true
      · rw [Bool.and_eq_true, Bool.and_eq_true] at hq
        rw [beq_iff_eq.mp hq.1.1]
      · dsimp only at h
        rw [if_neg hq] at h
        rw [List.lookup_cons, hx] at h
        dsimp only at h
        rcases h with h | h
        · exact absurd (Option.some.inj h) hk
        · exact h
    | false =>
      dsimp only
      refine ih ?_
      dsimp only at h
      by_cases hq : (k == NameKind.free && env.scope.kind == .function && env.kindOf n == some .cell) = true
      · rw [if_pos hq, List.lookup_cons, hx] at h
        exact h
      · rw [if_neg hq, List.lookup_cons, hx] at h
        exact h
theorem mem_lookup {x : Str} {k : NameKind} {l : List (Str × NameKind)} (h : l.lookup x = some k) : (x, k) ∈ l := PySem.mem_of_lookup h

/-! ### the block's context -/
def comp (X : Cx) (Nc : List Str) (scope : Scope) (cl : List (Str × Addr)) (C : Addr) (s : Shared) (H : Hp) (fp : List Addr) : Cx :=
  { X with N := Nc, s₀ := s, H₀ := H, env := compEnvC scope cl C X.env, outer := X.stack, stack := X.stack, ex := fp, fn := fun _ => false, pn := [], xe := fun _ _ => False }

/-- where the block's names come from: none (its own), or a slot of the def -/
def MapOk (X : Cx) (scope : Scope) : List Str → List (Option Nat) → Prop
  | [], [] => True
  | _ :: N, none :: m => MapOk X scope N m
  | x :: N, some i :: m => (X.N[i]? = some x ∧ (X.env.scope.names.lookup x = some .cell ∨ X.env.scope.names.lookup x = some .free) ∧ scope.names.lookup x = some .free) ∧ MapOk X scope N m
  | _, _ => False
theorem MapOk.len {X : Cx} {scope : Scope} : ∀ {N : List Str} {m : List (Option Nat)}, MapOk X scope N m → m.length = N.length
  | [], [], _ => rfl
  | _ :: N, none :: m, h => congrArg (· + 1) (MapOk.len (N := N) (m := m) h)
  | _ :: N, some _ :: m, h => congrArg (· + 1) (MapOk.len (N := N) (m := m) h.2)
  | [], _ :: _, h => h.elim
  | _ :: _, [], h => h.elim
theorem MapOk.at {X : Cx} {scope : Scope} {x : Str} {i : Nat} : ∀ {N : List Str} {m : List (Option Nat)} {j : Nat}, MapOk X scope N m → m[j]? = some (some i) → N[j]? = some x →
    X.N[i]? = some x ∧ (X.env.scope.names.lookup x = some .cell ∨ X.env.scope.names.lookup x = some .free) ∧ scope.names.lookup x = some .free
  | [], [], j, _, h, _ => by simp at h
  | _ :: N, none :: m, 0, _, h, _ => by simp at h
  | _ :: N, none :: m, j + 1, k, h, e => MapOk.at (N := N) (m := m) (j := j) k (by simpa using h) (by simpa using e)
  | y :: N, some i' :: m, 0, k, h, e => by
    simp at h e
    subst h; subst e
    exact k.1
  | _ :: N, some _ :: m, j + 1, k, h, e => MapOk.at (N := N) (m := m) (j := j) k.2 (by simpa using h) (by simpa using e)
  | [], _ :: _, _, h, _, _ => h.elim
  | _ :: _, [], _, h, _, _ => h.elim
/-- the block's names at its entry -/
def mapS (m : List (Option Nat)) (σ : L2.St) : L2.St := m.map fun o => o.bind fun i => (σ[i]?).bind id

structure CompOk (X : Cx) (scope : Scope) (Nc : List Str) (mp : List (Option Nat)) : Prop where
  kind : scope.kind = .function
  noc : ∀ y ∈ scope.names, y.2 ≠ .cell
  loc : ∀ y ∈ scope.names, y.2 = .local → scope.names.lookup y.1 = some .local
  fre : ∀ y ∈ scope.names, y.2 = .free → X.env.kindOf y.1 = some .cell ∨ X.env.kindOf y.1 = some .free
  map : MapOk X scope Nc mp

section
variable {X : Cx} {pins : List (Addr × Obj)} {σ : L2.St} {H : Hp} {s : Shared} {scope : Scope} {Nc : List Str} {mp : List (Option Nat)} {cl : List (Str × Addr)} {C : Addr} {fp : List Addr}
theorem comp_ok (I : Inv X pins σ H s) (S : CompOk X scope Nc mp) (h1 : ∀ x c, cl.lookup x = some c → X.env.cells.lookup x = some c) (h2 : ∀ y ∈ scope.names, y.2 = .free → ∃ c, cl.lookup y.1 = some c)
    (hC : s.heap.objs.size ≤ C) (hf : ∀ b ∈ fp, FpOk X pins H b) (ho : ∀ b ∈ fp, b < s.heap.objs.size) : (comp X Nc scope cl C s H fp).Ok where
  mod := I.ok.mod
  kind := S.kind
  glob := I.ok.glob
  blt := I.ok.blt
  above := hC
  inj := fun x y c e e' => I.ok.inj x y c (h1 x c e) (h1 y c e')
  has := fun x hx => by
    have q : scope.names.lookup x = some .free := relabel_back (env := X.env) S.noc hx
    exact h2 (x, .free) (mem_lookup q) rfl
  cab := fun x c hx => absurd (show false = true from hx) Bool.false_ne_true
  hd := I.ok.hd
  frames := I.ok.frames
  stk := .inl rfl
  exf := fun b hb => ⟨fun z => absurd (Nat.lt_of_lt_of_le (ho b hb) hC) (by rw [z]; exact Nat.lt_irrefl _), fun x c e => (hf b hb).2.2.2.2.1 x c (h1 x c e)⟩
  bs := I.bs
  bsz := Nat.le_trans I.ok.bsz I.sz
  noex := fun b o e hb => by
    rcases (hf b hb).2.2.2.1 with z | z
    · exact I.ok.noex b o e z
    · exact absurd (Nat.lt_of_lt_of_le (Heap.lt_size e) (Nat.le_trans I.ok.bsz z)) (Nat.lt_irrefl _)
  exfs := fun b hb z => by
    rcases List.mem_cons.mp (I.stkSub b z) with e | e
    · exact (hf b hb).2.1 e
    · exact (hf b hb).2.2.1 e
  funs := I.stack
  frf := I.stkFree
theorem comp_inv {h' : Heap} {tk : Nat} {D : Addr} {oD : Obj} (I : Inv X pins σ H s) (S : CompOk X scope Nc mp) (h1 : ∀ x c, cl.lookup x = some c → X.env.cells.lookup x = some c) (h2 : ∀ y ∈ scope.names, y.2 = .free → ∃ c, cl.lookup y.1 = some c)
    (hC : s.heap.objs.size ≤ C) (hf : ∀ b ∈ fp, FpOk X pins H b) (ho : ∀ b ∈ fp, b < s.heap.objs.size) (kp : ∀ b o, s.heap.get? b = some o → h'.get? b = some o) {m : Str → Option Value} (hn : h'.Ns C m)
    (hD : s.heap.objs.size ≤ D) (hDC : D ≠ C) (eD : h'.get? D = some oD) (dD : ∀ v, oD.data ≠ .cell v) : Inv (comp X Nc scope cl C s H fp) [(D, oD)] (mapS mp σ) H { s with heap := h', toks := tk } where
  ok := comp_ok I S h1 h2 hC hf ho
  os := rfl
  bare := I.bare
  base := Un.kept kp
  loc := by
    refine ⟨m, hn, fun j x v e1 e2 _ => ?_⟩
    have hj : (mapS mp σ)[j]? = (mp[j]?).map fun o => o.bind fun i => (σ[i]?).bind id := by unfold mapS; rw [List.getElem?_map]
    rw [hj] at e2
    cases e3 : mp[j]? with
    | none => rw [e3] at e2; cases e2
    | some o =>
      rw [e3] at e2
      cases o with
      | none => cases e2
      | some i =>
        obtain ⟨k1, k2, k3⟩ := S.map.at e3 e1
        have e4 : (σ[i]?).bind id = some v := Option.some.inj e2
        have e5 : σ[i]? = some (some v) := by
          cases q : σ[i]? with
          | none => rw [q] at e4; cases e4
          | some z => rw [q] at e4; exact congrArg some e4
        obtain ⟨m0, _, hl⟩ := I.loc
        obtain ⟨u, r, l⟩ := hl i x v k1 e5 (.inr k2)
        refine ⟨u, r, .inr ⟨?_, ?_⟩⟩
        · show (relabel scope X.env).names.lookup x = some .cell ∨ (relabel scope X.env).names.lookup x = some .free
          have go : ∀ {names : List (Str × NameKind)}, names.lookup x = some .free →
              ((names.map fun (n, k) => if (k == NameKind.free && X.env.scope.kind == .function && X.env.kindOf n == some .cell) then (n, NameKind.cell) else (n, k)).lookup x = some .cell ∨
                (names.map fun (n, k) => if (k == NameKind.free && X.env.scope.kind == .function && X.env.kindOf n == some .cell) then (n, NameKind.cell) else (n, k)).lookup x = some .free) := by
            intro names
            induction names with
            | nil => intro q; rw [List.lookup_nil] at q; cases q
            | cons y r ih =>
              obtain ⟨n, k⟩ := y
              intro q
              rw [List.lookup_cons] at q
              rw [List.map_cons]
              dsimp only
              cases hx : x == n with
              | true =>
                rw [hx] at q
                cases q
                by_cases hq : (NameKind.free == NameKind.free && X.env.scope.kind == .function && X.env.kindOf n == some .cell) = true
                · rw [if_pos hq, List.lookup_cons, hx]; exact .inl rfl
                · rw [if_neg hq, List.lookup_cons, hx]; exact .inr rfl
              | false =>
                rw [hx] at q
                by_cases hq : (k == NameKind.free && X.env.scope.kind == .function && X.env.kindOf n == some .cell) = true
                · rw [if_pos hq, List.lookup_cons, hx]; exact ih q
                · rw [if_neg hq, List.lookup_cons, hx]; exact ih q
          exact go k3
        · obtain ⟨c, hc⟩ := h2 (x, .free) (mem_lookup k3) rfl
          refine ⟨c, hc, ?_⟩
          rcases l with ⟨lk, _⟩ | ⟨_, c', hc', oc, hoc, hd⟩
          · have lk' : X.env.scope.names.lookup x = some .local := lk
            rcases k2 with k2 | k2 <;> (rw [lk'] at k2; cases k2)
          · rw [h1 x c hc] at hc'; cases hc'
            exact ⟨oc, kp _ _ hoc, hd⟩
  cell := fun x c e => by
    obtain ⟨v, o, ho', hd⟩ := I.cell x c (h1 x c e)
    exact ⟨v, o, kp _ _ ho', hd⟩
  free := I.hok.fresh hC
  freeC := fun x c e => I.freeC x c (h1 x c e)
  pin := fun p hp => by
    have e : p = (D, oD) := by
      have hp' : p ∈ ([] : List (Addr × Obj)) ++ [(D, oD)] := hp
      simpa using hp'
    subst e
    refine ⟨eD, I.hok.fresh hD, hDC, fun z => ?_, dD⟩
    rcases List.mem_cons.mp (I.stkSub D z) with e | e
    · exact absurd (Nat.lt_of_lt_of_le I.lt hD) (by rw [e]; exact Nat.lt_irrefl _)
    · exact I.nofs hD e
  hok := I.hok.kept kp
  len := by unfold mapS; rw [List.length_map]; exact S.map.len
/-- behind the block: the list at D is tracked now, the block's names are let go -/
theorem comp_out {σ' : L2.St} {H' : Hp} {s' : Shared} {h' : Heap} {D : Addr} {acc : List V} {its : List Value} {n : Nat} (I : Inv X pins σ H s) (hC : s.heap.objs.size ≤ C) (hD : s.heap.objs.size ≤ D) (hDC : D ≠ C) (hf : ∀ b ∈ fp, FpOk X pins H b)
    (J : Inv (comp X Nc scope cl C s H fp) [(D, { cls := .type "list", data := .seq its.toArray n })] σ' H' s') (hs : Heap.SameBut C s'.heap h') (hv : Vals acc its) (hz : acc.length ≤ sizeLine) :
    Inv X pins σ (upd H' D (.lst acc)) { s' with heap := h' } ∧ H' D = none := by
  obtain ⟨eD, nD, _, _, _⟩ := J.pin (D, { cls := .type "list", data := .seq its.toArray n }) (List.mem_append_right _ List.mem_cons_self)
  have nD' : H' D = none := nD
  have u : Un (frs X.stack) fp H H' s.heap s'.heap := J.base
  have neC : ∀ b o, s.heap.get? b = some o → b ≠ C := fun b o e => Nat.ne_of_lt (Nat.lt_of_lt_of_le (Heap.lt_size e) hC)
  have neD : ∀ b o, s.heap.get? b = some o → b ≠ D := fun b o e => Nat.ne_of_lt (Nat.lt_of_lt_of_le (Heap.lt_size e) hD)
  refine ⟨?_, nD'⟩
  refine I.call' (ch := fp) (s' := { s' with heap := h' }) J.os ⟨fun b o e nb hb hx => ?_, fun b o e nb hb hx => ?_, fun b o e nb hx => ?_, fun b o e hx => ?_, fun b xs e => ?_, fun b o xs e => ?_, fun b ps e => ?_⟩ (fun b o e => ?_) J.bare fun b hb => ⟨(hf b hb).2.2.2.1, (hf b hb).2.1, (hf b hb).2.2.2.2.1, (hf b hb).2.2.2.2.2⟩
  · exact (hs.2 b (neC b o e)).trans (u.keep b o e nb hb hx)
  · obtain ⟨sl, q⟩ := u.slot b o e nb hb hx
    exact ⟨sl, (hs.2 b (neC b o e)).trans q⟩
  · rw [upd_ne (neD b o e)]; exact u.free b o e nb hx
  · obtain ⟨o', q⟩ := u.there b o e hx
    exact ⟨o', (hs.2 b (neC b o e)).trans q⟩
  · have q := u.tups b xs e
    rw [upd_ne (ne_of_none q nD')]; exact q
  · have q := u.frzs b o xs e
    rw [upd_ne (ne_of_none q nD')]; exact q
  · obtain ⟨more, q⟩ := u.tbls b ps e
    exact ⟨more, by rw [upd_ne (ne_of_none q nD')]; exact q⟩
  · have freeC' : H' C = none := J.free
    by_cases hb : b = D
    · subst hb
      rw [upd_same] at e; cases e
      exact ⟨hz, its, n, hv, (hs.2 _ hDC).trans eD⟩
    · rw [upd_ne hb] at e
      refine (J.hok b o e).stay (fun c v hc q => (hs.2 c ?_).trans q) (fun c q => by rw [upd_ne (ne_of_none q nD')]; exact q) fun c xs q => by rw [upd_ne (ne_of_none q nD')]; exact q
      rcases hc with z | z
      · rw [z]; exact ne_of_none e freeC'
      · exact ne_of_none z freeC'
end

/-! ### the rule -/
/-- W: the invariant by the turn, a measure, the block's names, the items so far -/
def wComp (J : It) (g : TG) (tt : TT) (te : TE) (Q : VK) (σ : L2.St) (H : Hp) : Prop :=
  ∃ W : Nat → Nat → L2.St → List V → Hp → Prop, (∃ m, W 0 m σ [] H) ∧ ∀ i m σ acc H, W i m σ acc H →
    (J.stop i H ∧ acc.length ≤ sizeLine ∧ ∀ D, H D = none → Q (.ref D) (upd H D (.lst acc))) ∨
    (J.go i H ∧ ∀ x H', J.yld i H x H' → g x σ H' fun σ2 H2 => tt σ2 H2 fun b H3 => if b = true then te σ2 H3 fun v H4 => acc.length < sizeLine ∧ ∃ m', m' < m ∧ W (i + 1) m' σ2 (acc ++ [v]) H4 else ∃ m', m' < m ∧ W (i + 1) m' σ2 acc H3)
def tComp (mp : List (Option Nat)) (wi : TI) (g : TG) (tt : TT) (te : TE) : TE := fun σ H Q => wi σ H fun J H1 => wComp J g tt te Q (mapS mp σ) H1

section
variable {X : Cx} {scope : Scope} {Nc : List Str} {mp : List (Option Nat)} {tg iter elt : Expr} {ifs : List Expr} {pos : Pos} {wi : TI} {g : TG} {tt : TT} {te : TE}

/-- the block: from the iterator on, to what is wanted behind the loop -/
theorem comp_block {pins : List (Addr × Obj)} {σ : L2.St} {H : Hp} {s2 : Shared} {it : Addr} {fp : List Addr} {tn : Nat → Heap → Prop} {J : It} {cl : List (Str × Addr)} {RR : Value → Addr → Result → Shared → Prop} {Q : VK}
    (hc : X.calm = true) (S : CompOk X scope Nc mp)
    (hb : ∀ cl C s H fp, PG (comp X Nc scope cl C s H fp) tg g ∧ PTs (comp X Nc scope cl C s H fp) ifs tt ∧ PE (comp X Nc scope cl C s H fp) elt te)
    (h1 : ∀ x c, cl.lookup x = some c → X.env.cells.lookup x = some c) (h2 : ∀ y ∈ scope.names, y.2 = .free → ∃ c, cl.lookup y.1 = some c)
    (I : Inv X pins σ H s2) (T : Turn X.prog X.w X.K tg J fp it tn) (st : tn 0 s2.heap) (hf : ∀ b ∈ fp, FpOk X pins H b) (hw : wComp J g tt te Q (mapS mp σ) H)
    (hR : ∀ D C s' H', s2.heap.objs.size ≤ C → s2.heap.objs.size ≤ D → D ≠ C → (∃ m, s'.heap.Ns C m) → (∀ h', Heap.SameBut C s'.heap h' → Inv X pins σ H' { s' with heap := h' }) → H' C = none → Q (.ref D) H' → RR (.ref D) C (.ok .next) s') :
    wpAny (model X.prog X.w) X.A (newList []) (fun acc s₃ => wpAny (model X.prog X.w) X.A (newFunctionEnv scope X.env.globals cl [] X.env.qual none .none (some X.env)) (fun cenv s₄ =>
      codeAny (model X.prog X.w) X.A (.compStart (.ListComp elt [⟨tg, iter, ifs, 0⟩] scope pos) 0 (.ref it) acc { cenv with scope := relabel scope X.env }) (RR acc cenv.locals) s₄) X.xe s₃) X.xe s2 := by
  obtain ⟨W, ⟨m0, w0⟩, turn⟩ := hw
  refine wpAny_newObj_type (wpAny_newFunctionEnv S.noc (by intro y hy; simp at hy) (fun h₁ hns₁ hsb₁ => ?_) S.kind)
  dsimp only at hns₁ hsb₁ ⊢
  generalize hH2 : s2.heap.push { cls := .type "list", dict := none, data := .seq ([] : List Value).toArray } = H2 at hns₁ hsb₁ ⊢
  have hC : H2.objs.size = s2.heap.objs.size + 1 := by rw [← hH2, Heap.size_push]
  have hDC : s2.heap.objs.size ≠ H2.objs.size := by rw [hC]; exact Nat.ne_of_lt (Nat.lt_succ_self _)
  have hCle : s2.heap.objs.size ≤ H2.objs.size := by rw [hC]; exact Nat.le_succ _
  have below : ∀ b, b < s2.heap.objs.size → b ≠ H2.objs.size := fun b hb => by rw [hC]; exact Nat.ne_of_lt (Nat.lt_succ_of_lt hb)
  have old : ∀ b o, s2.heap.get? b = some o → h₁.get? b = some o := fun b o e => hsb₁.extBut b o (below b (Heap.lt_size e)) (Heap.get?_push_of_some _ (hH2 ▸ Heap.get?_push_of_some _ e))
  have eD : h₁.get? s2.heap.objs.size = some { cls := .type "list", data := .seq ([] : List Value).toArray 0 } := hsb₁.extBut _ _ hDC (Heap.get?_push_of_some _ (hH2 ▸ Heap.get?_push_size _ rfl))
  have ho : ∀ b ∈ fp, b < s2.heap.objs.size := fun b hb => by
    obtain ⟨o, e, _⟩ := T.obj 0 _ st b hb
    exact Heap.lt_size e
  generalize hYd : comp X Nc scope cl H2.objs.size s2 H fp = Y
  have bodies := hb cl H2.objs.size s2 H fp
  rw [hYd] at bodies
  obtain ⟨hg, htt, hte⟩ := bodies
  have I0 : ∀ tk, Inv Y [(s2.heap.objs.size, { cls := .type "list", data := .seq ([] : List Value).toArray 0 })] (mapS mp σ) H { s2 with heap := h₁, toks := tk } := fun tk => by
    rw [← hYd]
    exact comp_inv I S h1 h2 hCle hf ho old hns₁ (Nat.le_refl _) hDC eD fun v z => by cases z
  have hYp : Y.prog = X.prog := by rw [← hYd]; rfl
  have hYw : Y.w = X.w := by rw [← hYd]; rfl
  have hYK : Y.K = X.K := by rw [← hYd]; rfl
  have hYA : Y.A = X.A := by rw [← hYd]; rfl
  have hYc : Y.calm = true := by rw [← hYd]; exact hc
  have hYx : Y.xe = fun _ _ => False := by rw [← hYd]; rfl
  have hYe : Y.env = compEnvC scope cl H2.objs.size X.env := by rw [← hYd]; rfl
  have hYs : Y.s₀ = s2 := by rw [← hYd]; rfl
  have hYex : Y.ex = fp := by rw [← hYd]; rfl
  have hYpn : Y.pn = [] := by rw [← hYd]; rfl
  have hYfs : Y.fs = frs X.stack := by rw [← hYd]; rfl
  -- the iterator's objects, in the block
  have fpY : ∀ {o : Obj} {H' : Hp}, (∀ b ∈ fp, H' b = none) → ∀ b ∈ fp, FpOk Y [(s2.heap.objs.size, o)] H' b := fun {o H'} hn b hb => by
    refine ⟨hn b hb, ?_, ?_, .inl (by rw [hYex]; exact hb), fun x c e => ?_, fun p hp => ?_⟩
    · rw [hYe]; exact below b (ho b hb)
    · rw [hYfs]
      intro z
      rcases List.mem_cons.mp (I.stkSub b z) with e | e
      · exact (hf b hb).2.1 e
      · exact (hf b hb).2.2.1 e
    · rw [hYe] at e
      exact (hf b hb).2.2.2.2.1 x c (h1 x c e)
    · rw [hYpn] at hp
      have e : p = (s2.heap.objs.size, o) := by simpa using hp
      subst e
      exact Nat.ne_of_gt (ho b hb)
  have loop : ∀ s₃ : Shared, s₃ = { s2 with heap := h₁, toks := s2.toks + ([] : List (Str × Value)).length } →
      codeAny (model X.prog X.w) X.A (.compLoop (.ListComp elt [⟨tg, iter, ifs, 0⟩] scope pos) 0 (.ref it) (.ref s2.heap.objs.size) (compEnvC scope cl H2.objs.size X.env))
        (RR (.ref s2.heap.objs.size) H2.objs.size) s₃ := by
    rintro s₃ rfl
    refine compLoop_any (fun n s' => ∃ i σ' H' acc its k, Inv Y [(s2.heap.objs.size, { cls := .type "list", data := .seq its.toArray k })] σ' H' s' ∧ tn i s'.heap ∧ (∀ b ∈ fp, H' b = none) ∧ Vals acc its ∧ acc.length ≤ sizeLine ∧ W i n σ' acc H') ?_ m0
      ⟨0, mapS mp σ, H, [], [], 0, I0 _, T.keep 0 _ _ st fun b _ o e => old b o e, fun b hb => (hf b hb).1, .nil, Nat.zero_le _, w0⟩
    rintro n s3 ⟨i, σ3, H3, acc, its, k, I3, st3, fr3, hv, hz, w3⟩
    rcases turn i n σ3 acc H3 w3 with ⟨stop, hzz, qn⟩ | ⟨go, step⟩
    · have hd := T.done Y hYp hYw hYK hYc i _ s3 σ3 H3 NE I3 (fpY fr3) st3 stop
      rw [hYA] at hd
      refine thn hd fun r s4 ⟨hr, I4⟩ => ?_
      subst hr
      have I4' := I4
      rw [← hYd] at I4'
      have nC : H3 H2.objs.size = none := by
        have z := I4.free
        rw [hYe] at z
        exact z
      obtain ⟨_, nD⟩ := comp_out I hCle (Nat.le_refl _) hDC hf I4' (Heap.SameBut.refl _ s4.heap) hv hzz
      refine hR _ _ s4 _ hCle (Nat.le_refl _) hDC ?_ (fun h' hs' => (comp_out I hCle (Nat.le_refl _) hDC hf I4' hs' hv hzz).1) ?_ (qn _ nD)
      · obtain ⟨m', hn', _⟩ := I4.loc
        rw [hYe] at hn'
        exact ⟨m', hn'⟩
      · rw [upd_ne (Ne.symm hDC)]; exact nC
    · have hi := T.item Y hYp hYw hYK hYc i _ s3 σ3 H3 NE I3 (fpY fr3) st3 go
      rw [hYA] at hi
      refine thn hi fun r s4 ⟨u, hr, h4⟩ => ?_
      subst hr
      refine thn h4 fun _ s5 ⟨x, H5, I5, r5, y5, st5, fr5⟩ => ?_
      have I5' := I5.pinned (fpY fr5) (T.obj _ _ st5)
      have ha := hg _ s5 σ3 H5 x u _ I5' r5 (step x H5 y5)
      rw [hYp, hYw, hYA, hYe, hYx] at ha
      refine thn ha fun _ s6 ⟨σ6, H6, I6, q6⟩ => ?_
      have ht := htt _ s6 σ6 H6 _ I6 q6
      rw [hYp, hYw, hYA, hYe, hYx] at ht
      refine thn ht fun ok s7 ⟨H7, I7, q7⟩ => ?_
      cases ok with
      | false =>
        have q7' : ∃ m', m' < n ∧ W (i + 1) m' σ6 acc H7 := q7
        obtain ⟨m', hm, w7⟩ := q7'
        rw [if_neg Bool.false_ne_true]
        refine ⟨m', hm, i + 1, σ6, H7, acc, its, k, I7.unpinned, T.keep _ _ _ st5 fun b hb o e => (I7.pin (b, o) (List.mem_append_right _ (List.mem_append_right _ (mem_pinsAt hb e)))).1, fun b hb => ?_, hv, hz, w7⟩
        obtain ⟨o, e, d⟩ := T.obj _ _ st5 b hb
        exact (I7.pin (b, o) (List.mem_append_right _ (List.mem_append_right _ (mem_pinsAt hb e)))).2.1
      | true =>
        rw [if_pos rfl]
        have he := hte _ s7 σ6 H7 _ I7 q7
        rw [hYp, hYw, hYA, hYe, hYx] at he
        refine thn he fun x4 s8 ⟨v, H8, I8, r8, hlt, m', hm, w8⟩ => ?_
        have st8 : tn (i + 1) s8.heap := T.keep _ _ _ st5 fun b hb o e => (I8.pin (b, o) (List.mem_append_right _ (List.mem_append_right _ (mem_pinsAt hb e)))).1
        have fr8 : ∀ b ∈ fp, H8 b = none := fun b hb => by
          obtain ⟨o, e, d⟩ := T.obj _ _ st5 b hb
          exact (I8.pin (b, o) (List.mem_append_right _ (List.mem_append_right _ (mem_pinsAt hb e)))).2.1
        have I8' := I8.unpinned
        obtain ⟨e8, n8, ne8, nf8, _⟩ := I8'.pin (s2.heap.objs.size, { cls := .type "list", data := .seq its.toArray k }) (List.mem_append_right _ List.mem_cons_self)
        refine wpAny_list_append_plain (items := its.toArray) ⟨k, e8⟩ (fun h9 hl9 hs9 => ?_) (by rw [List.size_toArray, ← hv.length]; exact hz)
        obtain ⟨k9, e9⟩ := hl9
        have ep : its.toArray.push x4 = (its ++ [x4]).toArray := by simp
        rw [ep] at e9
        -- the list has turned
        have I9 : Inv Y [] σ6 H8 { s8 with heap := h9 } := by
          refine (I8'.pins_of (pins' := []) fun p hp => nomatch hp).turned (t' := s8.toks) (it := s2.heap.objs.size) (fun b o hb e => (hs9.2 b hb).trans e) n8 ne8 (.inr (by rw [hYs]; exact Nat.le_refl _)) (fun x c e z => ?_) fun p hp => ?_
          · rw [hYe] at e
            obtain ⟨v', o', ho', _⟩ := I.cell x c (h1 x c e)
            exact absurd (Heap.lt_size ho') (by rw [z]; exact Nat.lt_irrefl _)
          · rw [hYpn] at hp
            exact absurd hp (by simp)
        refine ⟨m', hm, i + 1, σ6, H8, acc ++ [v], its ++ [x4], k9, I9.pins_of fun p hp => ?_, ?_, fr8, hv.append (.cons r8 .nil), ?_, w8⟩
        · have e : p = (s2.heap.objs.size, { cls := .type "list", data := .seq (its ++ [x4]).toArray k9 }) := by simpa using hp
          subst e
          exact ⟨e9, n8, ne8, nf8, fun v z => by cases z⟩
        · exact T.keep _ _ _ st8 fun b hb o e => (hs9.2 b (Nat.ne_of_lt (ho b hb))).trans e
        · rw [List.length_append, List.length_singleton]; omega
  have hself := T.self X.A 0 { s2 with heap := h₁, toks := s2.toks + ([] : List (Str × Value)).length } (fun it' s' => codeAny (model X.prog X.w) X.A (.compLoop (.ListComp elt [⟨tg, iter, ifs, 0⟩] scope pos) 0 it' (.ref s2.heap.objs.size) (compEnvC scope cl H2.objs.size X.env))
        (RR (.ref s2.heap.objs.size) H2.objs.size) s') (notedBy (model X.prog X.w) X.A (compEnvC scope cl H2.objs.size X.env) fun x s' => RR (.ref s2.heap.objs.size) H2.objs.size (.error x) s') (T.keep 0 _ _ st fun b _ o e => old b o e) (loop _ rfl)
  exact codeAny_compStart_list (loop _ rfl) hself

theorem clos_of (S : CompOk X scope Nc mp) {pins : List (Addr × Obj)} {σ : L2.St} {H : Hp} {s : Shared} (I : Inv X pins σ H s) : ∃ cl, closureFor scope X.env = pure cl ∧ (∀ x c, cl.lookup x = some c → X.env.cells.lookup x = some c) ∧ (∀ y ∈ scope.names, y.2 = .free → ∃ c, cl.lookup y.1 = some c) :=
  closure_ok fun y hy hf => I.ok.has y.1 (S.fre y hy hf)

/-- [elt for tg in iter if ..] -/
theorem pe_comp (hc : X.calm = true) (S : CompOk X scope Nc mp) (hi : PI X tg iter wi)
    (hb : ∀ cl C s H fp, PG (comp X Nc scope cl C s H fp) tg g ∧ PTs (comp X Nc scope cl C s H fp) ifs tt ∧ PE (comp X Nc scope cl C s H fp) elt te)
    (hs : ∀ x, foldedSetIterable iter X.env x = pure x := by intro _; rfl) : PE X (.ListComp elt [⟨tg, iter, ifs, 0⟩] scope pos) (tComp mp wi g tt te) := by
  intro pins s σ H Q I h
  obtain ⟨cl, hcl, h1, h2⟩ := clos_of S I
  rw [eval_ListComp]
  refine wpAny_comprehension_free (use := none) rfl hs hcl S.kind S.loc (thn (hi pins s σ H _ I h) fun v s1 hv => thn hv fun itv s2 hq => ?_)
  obtain ⟨it, fp, tn, J, H2, e, I2, T, st2, f2, hw⟩ := hq
  subst e
  refine comp_block (RR := fun acc C => compPost (model X.prog X.w) X.A X.xe none (EP X pins σ Q) acc C) (Q := Q) hc S hb h1 h2 I2 T st2 f2 hw fun D C s' H' hC hD hDC hm hI hn hq => ?_
  obtain ⟨m, hm⟩ := hm
  exact ⟨m, hm, fun h' hs' => ⟨.ref D, H', hI h' hs', rfl, hq⟩⟩

/-- x = [elt for tg in iter if ..] -/
theorem ps_setC {i : Nat} {x : Str} {pos' spos : Pos} (hc : X.calm = true) (hN : X.N.Nodup) (hiN : X.N[i]? = some x) (hx : X.env.scope.names.lookup x = some .local) (S : CompOk X scope Nc mp) (hi : PI X tg iter wi)
    (hb : ∀ cl C s H fp, PG (comp X Nc scope cl C s H fp) tg g ∧ PTs (comp X Nc scope cl C s H fp) ifs tt ∧ PE (comp X Nc scope cl C s H fp) elt te)
    (hsw : swapsWith (.ListComp elt [⟨tg, iter, ifs, 0⟩] scope pos) (some (.Name x pos')) spos.line X.env = pure true := by rfl)
    (hs : ∀ x, foldedSetIterable iter X.env x = pure x := by intro _; rfl) : PS X (.Assign [.Name x pos'] (.ListComp elt [⟨tg, iter, ifs, 0⟩] scope pos) spos) (tAsg (tComp mp wi g tt te) (gName i)) := by
  intro pins s σ H D I h
  obtain ⟨cl, hcl, h1, h2⟩ := clos_of S I
  rw [exec_Assign_Name_used _ _ _ _ hsw]
  refine wpAny_bind (wpAny_standAt (wpAny_bind ?_))
  show wpAny _ X.A (do let _ ← comprehension (.ListComp elt [⟨tg, iter, ifs, 0⟩] scope pos) scope X.env _ (newList []) false (eval iter X.env) (some (assign (.Name x pos') X.env))) _ _ s
  refine wpAny_bind (wpAny_mono (wpAny_comprehension_free (use := some (assign (.Name x pos') X.env)) (Q := fun _ s' => SP X pins D .next s') rfl hs hcl S.kind S.loc (thn (hi pins s σ H _ I h) fun v s1 hv => thn hv fun itv s2 hq => ?_)) (fun _ s' hq => wpAny_pure (wpAny_pure hq)) fun _ _ e => e)
  obtain ⟨it, fp, tn, J, H2, e, I2, T, st2, f2, hw⟩ := hq
  subst e
  refine comp_block (RR := fun acc C => compPost (model X.prog X.w) X.A X.xe (some (assign (.Name x pos') X.env)) (fun _ s' => SP X pins D .next s') acc C) (Q := fun v H1 => D.nx (σ.set i (some v)) H1) hc S hb h1 h2 I2 T st2 f2 hw fun A C s' H' hC hD hDC hm hI hn hq => ?_
  obtain ⟨m, hm⟩ := hm
  show wpAny _ X.A (assign (.Name x pos') X.env (.ref A)) _ _ s'
  have I0 : Inv X pins σ H' s' := hI s'.heap (Heap.SameBut.refl ..)
  have hLC : X.env.locals ≠ C := Nat.ne_of_lt (Nat.lt_of_lt_of_le I2.lt hC)
  have hcC : ∀ y c, X.env.cells.lookup y = some c → c ≠ C := fun y c e z => by
    obtain ⟨v, o, ho, _⟩ := I2.cell y c e
    exact absurd (Nat.lt_of_lt_of_le (Heap.lt_size ho) hC) (by rw [z]; exact Nat.lt_irrefl _)
  refine wpAny_assign_Name (store_ok2 I0 hN hiN (.inl hx) (show RelV (.ref A) (.ref A) from rfl) (fun s6 I6 hch => ?_) (.inr hx))
  obtain ⟨a, hs6, ha⟩ := hch
  have hCa : C ≠ a := by
    rcases ha with z | z
    · rw [z]; exact Ne.symm hLC
    · exact Ne.symm (hcC x a z)
  refine ⟨m, hm.sameBut hs6 hCa, fun h' hs' => ?_⟩
  have I7 : Inv X pins (σ.set i (some (.ref A))) H' { s6 with heap := h' } := I6.turned (t' := s6.toks) (it := C) (fun b o hb e => (hs'.2 b hb).trans e) hn (Ne.symm hLC) (.inr (Nat.le_trans I2.sz hC)) hcC fun p hp z => by
    exact absurd (Nat.lt_of_lt_of_le (Heap.lt_size (I2.pin p hp).1) hC) (by rw [z]; exact Nat.lt_irrefl _)
  exact ⟨_, H', I7, hq⟩
end
end L3

set_option Elab.async false
set_option linter.all false
set_option maxRecDepth 100000
set_option maxHeartbeats 4000000
/-! TEXTS, slices, all, isinstance, is .. over the layer. -/
namespace L3
open PySem PySem.Spec PyProof.Rows L2

/-! ### slices -/
theorem bounds_gen (lo hi : Option Int) (n : Nat) : sliceBounds lo hi none n = (((HT.sIx n 0 lo : Nat) : Int), ((HT.sIx n n hi : Nat) : Int), 1) := by
  have clip : ∀ (v : Int), max 0 (min (if v < 0 then v + (n : Int) else v) (n : Int)) = (((if v < 0 then (v + (n : Int)).toNat else min v.toNat n) : Nat) : Int) := fun v => by
    by_cases hv : v < 0
    · rw [if_pos hv, if_pos hv]; omega
    · rw [if_neg hv, if_neg hv]; omega
  unfold sliceBounds
  refine Prod.ext ?_ (Prod.ext ?_ rfl)
  · cases lo with
    | none => rfl
    | some v => exact clip v
  · cases hi with
    | none => rfl
    | some v => exact clip v
theorem slicePick_cut (its : List Value) (lo hi : Option Int) : slicePick its.toArray lo hi none = ((its.drop (HT.sIx its.length 0 lo)).take (HT.sIx its.length its.length hi - HT.sIx its.length 0 lo)).toArray := by
  unfold slicePick
  rw [bounds_gen, List.size_toArray]
  dsimp only
  rw [sliceRange_one, pick_run]
theorem strIx_gen (lo hi : Option Int) (n : Nat) : Builtin.Str.strSliceIndices lo hi 1 n = (List.range (HT.sIx n n hi - HT.sIx n 0 lo)).map (HT.sIx n 0 lo + ·) := by
  have clip : ∀ (v : Int), max 0 (min (if v < 0 then v + (n : Int) else v) (n : Int)) = (((if v < 0 then (v + (n : Int)).toNat else min v.toNat n) : Nat) : Int) := fun v => by
    by_cases hv : v < 0
    · rw [if_pos hv, if_pos hv]; omega
    · rw [if_neg hv, if_neg hv]; omega
  rw [← sliceRange_one]
  unfold Builtin.Str.strSliceIndices
  have e1 : (match lo with | none => (0 : Int) | some i => max 0 (min (if i < 0 then i + (n : Int) else i) (n : Int))) = ((HT.sIx n 0 lo : Nat) : Int) := by
    cases lo with
    | none => rfl
    | some v => exact clip v
  have e2 : (match hi with | none => (n : Int) | some i => max 0 (min (if i < 0 then i + (n : Int) else i) (n : Int))) = ((HT.sIx n n hi : Nat) : Int) := by
    cases hi with
    | none => rfl
    | some v => exact clip v
  rw [← e1, ← e2]
  cases lo <;> cases hi <;> rfl
/-- the signs of z[lo:hi] -/
def cutL (l : List Nat) (lo hi : Option Int) : List Nat := (l.drop (HT.sIx l.length 0 lo)).take (HT.sIx l.length l.length hi - HT.sIx l.length 0 lo)
theorem slice_cut (z : Str) (lo hi : Option Int) : Txt.slice z lo hi = ⟨(cutL z.cps.toList lo hi).toArray⟩ := by
  have hl : z.cps.toList.length = z.length := by simp [Str.length]
  have hb : HT.sIx z.length z.length hi ≤ z.length := HT.sIx_le _ _ (Nat.le_refl _) hi
  unfold Txt.slice cutL
  rw [strIx_gen, hl]
  by_cases h : ((1 : Int) == 1 && ((List.range (HT.sIx z.length z.length hi - HT.sIx z.length 0 lo)).map (HT.sIx z.length 0 lo + ·)).length == z.length) = true
  · rw [if_pos h]
    rw [Bool.and_eq_true, List.length_map, List.length_range] at h
    have h2 := eq_of_beq h.2
    have e : (z.cps.toList.drop (HT.sIx z.length 0 lo)).take (HT.sIx z.length z.length hi - HT.sIx z.length 0 lo) = z.cps.toList := by
      by_cases h0 : z.length = 0
      · have : z.cps.toList = [] := List.eq_nil_of_length_eq_zero (by rw [hl]; exact h0)
        rw [this]; simp
      · have ha : HT.sIx z.length 0 lo = 0 := by omega
        rw [ha, List.drop_zero]
        exact List.take_of_length_le (by rw [hl]; omega)
    rw [e]
  · rw [if_neg h, pick_run]
theorem str_mk (z : Str) : (⟨z.cps.toList.toArray⟩ : Str) = z := by cases z; simp

section
variable {X : Cx}
def rSlLs (K : PySem.W.Frag) : V → Option Int → Option Int → Hp → VK → Prop := fun x lo hi H Q => ∃ a xs, x = .ref a ∧ SqL K H a xs ∧ ∀ p, H p = none → Q (.ref p) (upd H p (.lst (cutV xs lo hi)))
theorem sl_lst : SlR X (rSlLs X.K) := by
  intro pins s σ H x v vl vu lo hi sl Q I rx hs pl pu h
  obtain ⟨a, xs, rfl, hx, q⟩ := h
  cases rx
  obtain ⟨its, r, hp, hz⟩ := I.list hx
  refine ⟨"list", _, list_getitem_lookup, hp.isList.typeIs, ?_⟩
  refine wpAny_getItem_list_slice hp.isList hs pl pu .none (by simp) ?_ (by rw [List.size_toArray, ← r.length]; exact hz)
  rw [slicePick_cut, ← r.length]
  exact ⟨.ref _, _, I.lnew (t' := s.toks) ((r.drop _).take _) (Nat.le_trans (cutV_length xs lo hi) hz), rfl, q _ I.fresh⟩
def rSlS : V → Option Int → Option Int → Hp → VK → Prop := fun x lo hi H Q => ∃ z, x = .str z ∧ z.length ≤ sizeLine ∧ Q (.str ⟨(cutL z.cps.toList lo hi).toArray⟩) H
theorem sl_str : SlR X rSlS := by
  intro pins s σ H x v vl vu lo hi sl Q I rx hs pl pu h
  obtain ⟨z, rfl, hz, q⟩ := h
  obtain ⟨t, rfl⟩ := rx
  refine ⟨"str", _, F.slot_str_getitem.lookup, typeIs_str _ _ _, ?_⟩
  have fin : ∀ t' k, EP X pins σ Q (.str (Txt.slice z lo hi) t') { s with toks := k } := fun t' k => by
    rw [slice_cut]
    exact ⟨.str _, H, I.tok _, ⟨_, rfl⟩, q⟩
  obtain ⟨os, hos, hcs, hds⟩ := id hs
  cases pl with
  | none =>
    cases pu with
    | none => exact wpAny_getItem_str_slice (l := none) (u := none) (st := none) ⟨os, hos, hcs, hds⟩ rfl (post_val_or_str ⟨Nat.le_trans (Txt.slice_le z _ _) hz, fin⟩)
    | int j uj => exact wpAny_getItem_str_slice (l := none) (u := some (j, uj)) (st := none) ⟨os, hos, hcs, hds⟩ rfl (post_val_or_str ⟨Nat.le_trans (Txt.slice_le z _ _) hz, fin⟩)
  | int i ui =>
    cases pu with
    | none => exact wpAny_getItem_str_slice (l := some (i, ui)) (u := none) (st := none) ⟨os, hos, hcs, hds⟩ rfl (post_val_or_str ⟨Nat.le_trans (Txt.slice_le z _ _) hz, fin⟩)
    | int j uj => exact wpAny_getItem_str_slice (l := some (i, ui)) (u := some (j, uj)) (st := none) ⟨os, hos, hcs, hds⟩ rfl (post_val_or_str ⟨Nat.le_trans (Txt.slice_le z _ _) hz, fin⟩)

/-! ### sep.join, text.index, all -/
theorem strsAre_of {ws : List Str} : ∀ {us : List Value}, Vals (ws.map V.str) us → StrsAre us ws := by
  induction ws with
  | nil => intro us r; rw [List.map_nil] at r; cases r; exact .nil
  | cons z ws ih =>
    intro us r
    rw [List.map_cons] at r
    cases r with
    | cons r1 r2 =>
      obtain ⟨t, e⟩ := r1
      subst e
      exact .cons z t (ih r2)
def rJoin (K : PySem.W.Frag) : V → List V → Hp → VK → Prop := fun x vs H Q => ∃ sep p ws, x = .str sep ∧ vs = [.ref p] ∧ (SqL K H p (ws.map V.str) ∨ SqT K H p (ws.map V.str)) ∧ (ws.map (·.length)).sum + ws.length * sep.length ≤ 16777216 ∧ Q (.str (Txt.join sep ws)) H
theorem mt_join : MtR X "str.join" (rJoin X.K) := by
  intro pins s σ H x xs v us Q I rx rv h
  obtain ⟨sep, p, ws, rfl, rfl, hq, hz, q⟩ := h
  obtain ⟨t, rfl⟩ := rx
  obtain ⟨u, rfl, ru⟩ := rv.one
  cases ru
  rcases hq with hq | hq
  · obtain ⟨its, r, hp, _⟩ := I.list hq
    exact join_list hp.isList (by simpa using strsAre_of r) hz fun t' k => ⟨.str _, H, I.tok _, ⟨_, rfl⟩, q⟩
  · obtain ⟨its, r, hp, _⟩ := I.tuple hq
    exact join_tuple hp (by simpa using strsAre_of r) hz fun t' k => ⟨.str _, H, I.tok _, ⟨_, rfl⟩, q⟩
def rIndex : V → List V → Hp → VK → Prop := fun x vs H Q => ∃ z y, x = .str z ∧ vs = [.str y] ∧ 0 ≤ Txt.find z y ∧ Q (.int (Txt.find z y)) H
theorem mt_index (hc : X.calm = true) : MtR X "str.index" rIndex := by
  intro pins s σ H x xs v us Q I rx rv h
  obtain ⟨z, y, rfl, rfl, h0, q⟩ := h
  obtain ⟨t, rfl⟩ := rx
  obtain ⟨u, rfl, ru⟩ := rv.one
  obtain ⟨t', rfl⟩ := ru
  refine index_or (I.ok.hd hc) (fun e _ => ?_) fun _ _ => ⟨.int _, H, I.tok _, ⟨_, rfl⟩, q⟩
  rw [e] at h0
  exact absurd h0 (by decide)
theorem all_range (bs : List Bool) : (List.range bs.length).all (fun i => bs.getD i false) = bs.all id := by
  rw [Bool.eq_iff_iff, List.all_eq_true, List.all_eq_true]
  constructor
  · intro h b hb
    obtain ⟨i, hi, e⟩ := List.mem_iff_getElem.mp hb
    have := h i (List.mem_range.mpr hi)
    rw [List.getD_eq_getElem?_getD, List.getElem?_eq_getElem hi] at this
    rw [← e]; exact this
  · intro h i hi
    have hi' := List.mem_range.mp hi
    rw [List.getD_eq_getElem?_getD, List.getElem?_eq_getElem hi']
    exact h _ (List.getElem_mem hi')
theorem call_all (hc : X.calm = true) : CallR X (.builtin "all") (fun xs H Q => ∃ (p : Addr) (bs : List Bool), xs = [.ref p] ∧ SqL X.K H p (bs.map V.bl) ∧ Q (.bl (bs.all id)) H) := by
  intro pins s σ H xs us Q I r h
  obtain ⟨p, bs, rfl, hq, q⟩ := h
  obtain ⟨u, rfl, ru⟩ := r.one
  cases ru
  obtain ⟨its, rv, hp, hz⟩ := I.list hq
  have hlt : p < s.heap.objs.size := by obtain ⟨_, e, _⟩ := hp.isList; exact Heap.lt_size e
  refine call_all_walk (wpAny_pyIter_list hp.isList ?_)
  refine ⟨s.heap.objs.size, [s.heap.objs.size, p], [s.heap.objs.size], its.toArray.size, _, _, fun i => bs.getD i false, rfl, Walks.list (A := X.A.in1) (I.ok.hd hc) _ _ (Nat.ne_of_lt hlt) its.toArray, ⟨⟨_, Heap.get?_push_size _ rfl, rfl, rfl⟩, hp.isList.push _⟩, ?_, ?_⟩
  · intro i v s' Q' E' hv hQ'
    have hv' : its[i]? = some v := by simpa using hv
    have hi : i < (bs.map V.bl).length := by
      rw [rv.length]; exact (List.getElem?_eq_some_iff.mp hv').1
    have hib : i < bs.length := by simpa using hi
    obtain ⟨u, hu, ru⟩ := rv.get (i := i) (x := V.bl bs[i]) (by rw [List.getElem?_map, List.getElem?_eq_getElem hib]; rfl)
    rw [hv'] at hu; cases hu
    cases ru
    have e : bs.getD i false = bs[i] := by rw [List.getD_eq_getElem?_getD, List.getElem?_eq_getElem hib]; rfl
    dsimp only at hQ'
    rw [e] at hQ'
    exact wpAny_truthy_bool hQ'
  · intro h' tk hk
    have el : its.toArray.size = bs.length := by rw [List.size_toArray, ← rv.length, List.length_map]
    rw [el, all_range]
    exact ⟨.bl _, H, I.kept fun b o e => hk b o (fun z => absurd (Heap.lt_size e) (by rw [List.mem_singleton.mp z]; exact Nat.lt_irrefl _)) (Heap.get?_push_of_some _ e), rfl, q⟩

/-! ### is, is not of bools; isinstance -/
theorem call_isi : CallR X (.builtin "isinstance") (fun xs H Q => ∃ x n t b, xs = [x, .ty n] ∧ TyOf X.K H x t ∧ PySem.W.kitOne X.K t (.type n) = some b ∧ Q (.bl b) H) := by
  intro pins s σ H xs us Q I r h
  obtain ⟨x, n, t, b, rfl, ty, e, q⟩ := h
  obtain ⟨u, u2, rfl, r1, r2⟩ := r.two
  cases r2
  exact isinst_ok I r1 ty e fun tk => ⟨.bl b, H, I.tok _, rfl, q⟩

/-! ### a text, sign by sign -/
def Its (z : Str) : It := ⟨fun i _ => i < z.length, fun i H x H' => H' = H ∧ ∃ c, z.cps[i]? = some c ∧ x = .str ⟨#[c]⟩, fun i _ => z.length ≤ i⟩
theorem turn_str {P : Program} {w : World} {K : PySem.W.Frag} {tg : Expr} (z : Str) (t : Tok) (it : Addr) : Turn P w K tg (Its z) [it] it (fun i h => h.IsStrIter it (strIterType z) z t i) where
  mem := by simp
  obj := fun i h st b hb => by
    have e : b = it := by simpa using hb
    subst e
    obtain ⟨o, e, c, d⟩ := st
    exact ⟨o, e, fun v z => by rw [d] at z; cases z⟩
  keep := fun i h h' st k => by
    obtain ⟨o, e, r⟩ := st
    exact ⟨o, k it (by simp) o e, r⟩
  item := by
    intro X hP hw hK hc i pins s σ H E I hf st hg
    subst hP hw hK
    have hg' : i < z.cps.size := hg
    obtain ⟨f0, f1, f2, f3, f4, f5⟩ := hf it (by simp)
    have fin : ∀ h' tk, h'.IsStrIter it (strIterType z) z t (i + 1) → Heap.SameBut it s.heap h' → ∃ u, some (Value.str ⟨#[z.cps[i]]⟩ s.toks) = some u ∧
        wpAny (model X.prog X.w) X.A (letOwnedTupleGo tg (.ref it) u) (fun _ s2 => ∃ x H', Inv X pins σ H' s2 ∧ RelV x u ∧ (Its z).yld i H x H' ∧ s2.heap.IsStrIter it (strIterType z) z t (i + 1) ∧ ∀ b ∈ [it], H' b = none) E { s with heap := h', toks := tk } := fun h' tk st' sb => by
      have I1 : Inv X pins σ H { s with heap := h', toks := tk } := I.turned (fun b o hb e => (sb.2 b hb).trans e) f0 f1 f3 f4 f5
      obtain ⟨o, e, c, d⟩ := id st'
      refine ⟨_, rfl, go_of (s := { s with heap := h', toks := tk }) e c d ?_ ⟨.str ⟨#[z.cps[i]]⟩, H, I1, ⟨_, rfl⟩, ⟨rfl, _, by simp [hg'], rfl⟩, st', fun b hb => (hf b hb).1⟩⟩
      unfold strIterType
      split <;> decide
    cases ha : z.cps.all (· < 128) with
    | true =>
      have e : strIterType z = "str_ascii_iterator" := by simp [strIterType, ha]
      rw [e] at st fin ⊢
      exact wpAny_pyNext_ascii_item st (c := z.cps[i]) (by simp [hg']) fun h' st' sb => fin h' _ st' sb
    | false =>
      have e : strIterType z = "str_iterator" := by simp [strIterType, ha]
      rw [e] at st fin ⊢
      exact wpAny_pyNext_wide_item st (c := z.cps[i]) (by simp [hg']) fun h' st' sb => fin h' _ st' sb
  done := by
    intro X hP hw hK hc i pins s σ H E I hf st hg
    subst hP hw hK
    have hg' : z.cps.size ≤ i := hg
    obtain ⟨f0, f1, f2, f3, f4, f5⟩ := hf it (by simp)
    cases ha : z.cps.all (· < 128) with
    | true =>
      have e : strIterType z = "str_ascii_iterator" := by simp [strIterType, ha]
      rw [e] at st
      exact wpAny_pyNext_ascii_end (I.ok.hd hc) st (by simp [hg']) fun h' eb => ⟨rfl, I.turned (t' := s.toks) (fun b o hb e => eb b o hb e) f0 f1 f3 f4 f5⟩
    | false =>
      have e : strIterType z = "str_iterator" := by simp [strIterType, ha]
      rw [e] at st
      exact wpAny_pyNext_wide_end (I.ok.hd hc) st (by simp [hg']) fun h' eb => ⟨rfl, I.turned (t' := s.toks) (fun b o hb e => eb b o hb e) f0 f1 f3 f4 f5⟩
  self := fun _ _ _ _ _ st h => by
    cases ha : z.cps.all (· < 128) with
    | true =>
      have e : strIterType z = "str_ascii_iterator" := by simp [strIterType, ha]
      rw [e] at st
      exact wpAny_pyIter_striter_ascii st h
    | false =>
      have e : strIterType z = "str_iterator" := by simp [strIterType, ha]
      rw [e] at st
      exact wpAny_pyIter_striter_wide st h
def iStr (tl : TE) : TI := fun σ H R => tl σ H fun x H1 => ∃ z, x = .str z ∧ R (Its z) H1
theorem pi_str {tg l : Expr} {tl : TE} (hl : PE X l tl) : PI X tg l (iStr tl) := by
  intro pins s σ H R I h
  refine thn (hl pins s σ H _ I h) fun v s1 ⟨x, H1, I1, r1, q1⟩ => ?_
  obtain ⟨z, e, q⟩ := q1
  subst e
  obtain ⟨t, rfl⟩ := r1
  refine wpAny_pyIter_strU ?_
  refine ⟨s1.heap.objs.size, [s1.heap.objs.size], _, _, H1, rfl, I1.kept (t' := s1.toks) fun b o e => Heap.get?_push_of_some _ e, turn_str z t _, ⟨_, Heap.get?_push_size _ rfl, rfl, rfl⟩, fun b hb => ?_, q⟩
  have e : b = s1.heap.objs.size := by simpa using hb
  subst e
  exact I1.fpOk (Nat.le_refl _) (I1.hok.fresh (Nat.le_refl _))
end
end L3

set_option Elab.async false
set_option linter.all false
set_option maxRecDepth 100000
set_option maxHeartbeats 4000000
/-! COMPREHENSIONS that leave the heap as it is; small words. -/
namespace L3
open PySem PySem.Spec PyProof.Rows L2

/-! ### the block's names, by computing -/
def mapChk (sc : Scope) (N : List Str) (own : Scope) : List Str → List (Option Nat) → Bool
  | [], [] => true
  | _ :: r, none :: m => mapChk sc N own r m
  | x :: r, some i :: m => (N[i]? == some x && (sc.names.lookup x == some .cell || sc.names.lookup x == some .free) && own.names.lookup x == some .free) && mapChk sc N own r m
  | _, _ => false
def compChk (sc : Scope) (N : List Str) (own : Scope) (Nc : List Str) (mp : List (Option Nat)) : Bool :=
  (own.kind == .function) && (own.names.all fun y => y.2 != .cell) && (own.names.all fun y => y.2 != .local || own.names.lookup y.1 == some .local) &&
  (own.names.all fun y => y.2 != .free || (sc.names.lookup y.1 == some .cell || sc.names.lookup y.1 == some .free)) && mapChk sc N own Nc mp
theorem mapChk_ok {X : Cx} {own : Scope} : ∀ {Nc : List Str} {mp : List (Option Nat)}, mapChk X.env.scope X.N own Nc mp = true → MapOk X own Nc mp
  | [], [], _ => trivial
  | _ :: r, none :: m, h => mapChk_ok (Nc := r) (mp := m) h
  | x :: r, some i :: m, h => by
    unfold mapChk at h
    simp only [Bool.and_eq_true, Bool.or_eq_true, beq_iff_eq] at h
    exact ⟨⟨h.1.1.1, h.1.1.2, h.1.2⟩, mapChk_ok h.2⟩
  | [], _ :: _, h => absurd (show false = true from h) Bool.false_ne_true
  | _ :: _, [], h => absurd (show false = true from h) Bool.false_ne_true
theorem CompOk.of {X : Cx} {own : Scope} {Nc : List Str} {mp : List (Option Nat)} (h : compChk X.env.scope X.N own Nc mp = true) : CompOk X own Nc mp := by
  unfold compChk at h
  simp only [Bool.and_eq_true, List.all_eq_true, Bool.or_eq_true, beq_iff_eq, bne_iff_ne] at h
  obtain ⟨⟨⟨⟨h1, h2⟩, h3⟩, h4⟩, h5⟩ := h
  refine ⟨h1, h2, fun y hy e => ?_, fun y hy e => ?_, mapChk_ok h5⟩
  · rcases h3 y hy with z | z
    · exact absurd e z
    · exact z
  · rcases h4 y hy with z | z
    · exact absurd e z
    · exact z

/-! ### sources that do not change -/
structure Src (J : It) (H : Hp) (xs : List V) : Prop where
  go : ∀ i, i < xs.length → J.go i H
  yld : ∀ i x H', i < xs.length → J.yld i H x H' → H' = H ∧ xs[i]? = some x
  stop : ∀ i, xs.length ≤ i → J.stop i H
theorem src_str (z : Str) (H : Hp) : Src (Its z) H (z.cps.toList.map fun c => V.str ⟨#[c]⟩) where
  go := fun i h => by
    rw [List.length_map, Array.length_toList] at h
    exact h
  yld := fun i x H' _ h => by
    obtain ⟨e, c, hc, rfl⟩ := h
    exact ⟨e, by rw [List.getElem?_map, Array.getElem?_toList, hc]; rfl⟩
  stop := fun i h => by
    rw [List.length_map, Array.length_toList] at h
    exact h
theorem src_range (lo : Int) (n : Nat) (H : Hp) : Src (Itr lo n) H ((List.range n).map fun i => V.int (lo + (i : Nat))) where
  go := fun i h => by
    rw [List.length_map, List.length_range] at h
    exact h
  yld := fun i x H' hi h => by
    obtain ⟨e, rfl⟩ := h
    rw [List.length_map, List.length_range] at hi
    exact ⟨e, by rw [List.getElem?_map, List.getElem?_range hi]; rfl⟩
  stop := fun i h => by
    rw [List.length_map, List.length_range] at h
    exact h
theorem src_tup {K : PySem.W.Frag} {H : Hp} {a : Addr} {xs : List V} (h : SqT K H a xs) : Src (Itt K a) H xs where
  go := fun i hi => ⟨xs, xs[i], h, by simp [hi]⟩
  yld := fun i x H' _ q => ⟨q.1, q.2 xs h⟩
  stop := fun i hi => ⟨xs, h, hi⟩

/-- a comprehension whose tests and items leave the heap as it is -/
theorem comp_pure {α : Type} {J : It} {H : Hp} {as : List α} {v : α → V} (f : α → Bool) (e : α → V) {tt : TT} {te : TE} {Q : VK} {rest : L2.St} (S : Src J H (as.map v)) (hz : as.length ≤ sizeLine)
    (ht : ∀ a ∈ as, ∀ k : Bool → Hp → Prop, k (f a) H → tt (some (v a) :: rest) H k) (he : ∀ a ∈ as, f a = true → ∀ k : VK, k (e a) H → te (some (v a) :: rest) H k)
    (hq : ∀ D, H D = none → Q (.ref D) (upd H D (.lst ((as.filter f).map e)))) : wComp J (gName 0) tt te Q (none :: rest) H := by
  refine ⟨fun i m σ acc H' => H' = H ∧ i ≤ as.length ∧ m = as.length - i ∧ acc = ((as.take i).filter f).map e ∧ ∃ o, σ = o :: rest, ⟨as.length, rfl, Nat.zero_le _, rfl, by simp, none, rfl⟩, ?_⟩
  rintro i m σ acc H' ⟨rfl, hi, rfl, rfl, o, rfl⟩
  have hacc : (((as.take i).filter f).map e).length ≤ i := by
    rw [List.length_map]
    exact Nat.le_trans (List.length_filter_le _ _) (by rw [List.length_take]; exact Nat.min_le_left _ _)
  by_cases hlt : i < as.length
  · refine .inr ⟨S.go i (by rw [List.length_map]; exact hlt), fun x H1 y => ?_⟩
    obtain ⟨rfl, hx⟩ := S.yld i x H1 (by rw [List.length_map]; exact hlt) y
    rw [List.getElem?_map, List.getElem?_eq_getElem hlt] at hx
    have hx' : v as[i] = x := Option.some.inj hx
    subst hx'
    have hm : as[i] ∈ as := List.getElem_mem hlt
    have ts : as.take (i + 1) = as.take i ++ [as[i]] := List.take_succ_eq_append_getElem hlt
    show tt (some (v as[i]) :: rest) H1 _
    refine ht _ hm _ ?_
    cases hf : f as[i] with
    | true =>
      rw [if_pos rfl]
      refine he _ hm hf _ ⟨by omega, as.length - (i + 1), by omega, rfl, hlt, rfl, ?_, _, rfl⟩
      rw [ts, List.filter_append, List.map_append, List.filter_cons_of_pos hf]
      rfl
    | false =>
      rw [if_neg Bool.false_ne_true]
      refine ⟨as.length - (i + 1), by omega, rfl, hlt, rfl, ?_, _, rfl⟩
      rw [ts, List.filter_append, List.filter_cons_of_neg (by rw [hf]; exact Bool.false_ne_true)]
      simp
  · have ei : i = as.length := by omega
    subst ei
    refine .inl ⟨S.stop _ (by rw [List.length_map]; exact Nat.le_refl _), by omega, fun D hD => ?_⟩
    rw [List.take_length]
    exact hq D hD
theorem comp_map {α : Type} {J : It} {H : Hp} {as : List α} {v : α → V} (e : α → V) {te : TE} {Q : VK} {rest : L2.St} (S : Src J H (as.map v)) (hz : as.length ≤ sizeLine)
    (he : ∀ a ∈ as, ∀ k : VK, k (e a) H → te (some (v a) :: rest) H k)
    (hq : ∀ D, H D = none → Q (.ref D) (upd H D (.lst (as.map e)))) : wComp J (gName 0) tYes te Q (none :: rest) H :=
  comp_pure (fun _ => true) e S hz (fun a _ k hk => hk) (fun a ha _ k hk => he a ha k hk) fun D hD => by
    have e1 : as.filter (fun _ => true) = as := by simp
    rw [e1]; exact hq D hD

/-! ### a cut between two statements: what holds there -/
section
variable {X : Cx} {st : Stmt} {t : TS}
def tMid (t : TS) : TS := fun D σ H => ∃ M : L2.St → Hp → Prop, t { D with nx := M } σ H ∧ ∀ σ' H', M σ' H' → D.nx σ' H'
theorem ps_mid (h : PS X st t) : PS X st (tMid t) := by
  intro pins s σ H D I hw
  obtain ⟨M, h1, h2⟩ := hw
  refine thn (h pins s σ H { D with nx := M } I h1) fun f s' q => ?_
  cases f with
  | next =>
    obtain ⟨σ', H', I', m⟩ := q
    exact ⟨σ', H', I', h2 _ _ m⟩
  | ret v => exact q
  | brk => exact q
  | cont => exact q
end

/-! ### lengths -/
theorem szl : (sizeLine : Nat) = 16777216 := sizeLine_eq
theorem few {n : Nat} (h : n ≤ 100000) : n ≤ sizeLine := by rw [szl]; omega
theorem fewer {n : Nat} (h : n ≤ 100000) : n < sizeLine := by rw [szl]; omega
end L3

set_option Elab.async false
set_option linter.all false
set_option maxRecDepth 100000
set_option maxHeartbeats 4000000
/-! THE MATHEMATICS of words. -/
namespace Vm
open PySem L2 L3
/-- a letter a to z -/
def Al (c : Nat) : Prop := 97 ≤ c ∧ c ≤ 122
structure Good (z : Str) : Prop where
  lo : 1 ≤ z.length
  hi : z.length ≤ 12
  al : ∀ c ∈ z.cps.toList, Al c
def letters : Str := "abcdefghijklmnopqrstuvwxyz"
theorem letters_cps : letters.cps.toList = (List.range 26).map (97 + ·) := by decide +kernel
theorem mem_letters {c : Nat} : c ∈ letters.cps.toList ↔ Al c := by
  rw [letters_cps, List.mem_map]
  unfold Al
  constructor
  · rintro ⟨i, hi, rfl⟩
    have := List.mem_range.mp hi
    omega
  · intro h
    exact ⟨c - 97, List.mem_range.mpr (by omega), by omega⟩
theorem clen (z : Str) : z.cps.toList.length = z.length := by simp [Str.length]
theorem Good.small {z : Str} (g : Good z) : z.length ≤ sizeLine := few (by have := g.hi; omega)
def onlyB (z y : Str) : Bool := z.cps.toList.all fun c => decide (c ∈ y.cps.toList)
def wordB (z : Str) : Bool := decide (1 ≤ z.length ∧ z.length ≤ 12) && onlyB z letters
theorem wordB_iff {z : Str} : wordB z = true ↔ Good z := by
  unfold wordB onlyB
  rw [Bool.and_eq_true, decide_eq_true_eq, List.all_eq_true]
  constructor
  · rintro ⟨⟨h1, h2⟩, h3⟩
    exact ⟨h1, h2, fun c hc => mem_letters.mp (of_decide_eq_true (h3 c hc))⟩
  · rintro ⟨h1, h2, h3⟩
    exact ⟨⟨h1, h2⟩, fun c hc => decide_eq_true (mem_letters.mpr (h3 c hc))⟩
/-- the places at which two texts differ -/
def placesB (a b : List Nat) : List Nat := (List.range a.length).filter fun i => !decide (a[i]? = b[i]?)
def alikeB (a b : List Nat) : Bool := if a.length = b.length then decide ((placesB a b).length = 1) else false
/-! ### cuts of texts -/
theorem mk_list (l : List Nat) : (⟨l.toArray⟩ : Str).cps.toList = l := by simp
theorem mk_len (l : List Nat) : (⟨l.toArray⟩ : Str).length = l.length := by
  show l.toArray.size = _
  rw [List.size_toArray]
theorem take_min {α : Type} (l : List α) (n : Nat) : l.take (min n l.length) = l.take n := by
  by_cases h : n ≤ l.length
  · rw [Nat.min_eq_left h]
  · rw [Nat.min_eq_right (by omega), List.take_of_length_le (Nat.le_refl l.length), List.take_of_length_le (l := l) (i := n) (by omega)]
theorem drop_min {α : Type} (l : List α) (n : Nat) : l.drop (min n l.length) = l.drop n := by
  by_cases h : n ≤ l.length
  · rw [Nat.min_eq_left h]
  · rw [Nat.min_eq_right (by omega), List.drop_of_length_le (Nat.le_refl l.length), List.drop_of_length_le (l := l) (i := n) (by omega)]
theorem cutL_take (l : List Nat) (n : Nat) : cutL l none (some (n : Int)) = l.take n := by
  unfold cutL
  rw [HT.sIx_none, HT.sIx_nat, List.drop_zero, Nat.sub_zero, take_min]
theorem cutL_drop (l : List Nat) (n : Nat) : cutL l (some (n : Int)) none = l.drop n := by
  unfold cutL
  rw [HT.sIx_none, HT.sIx_nat, drop_min]
  exact List.take_of_length_le (by rw [List.length_drop]; omega)
/-! ### words that are made -/
theorem good_mk {l : List Nat} (h1 : 1 ≤ l.length) (h2 : l.length ≤ 12) (h : ∀ c ∈ l, Al c) : Good ⟨l.toArray⟩ := ⟨by show 1 ≤ l.toArray.size; rw [List.size_toArray]; exact h1, by show l.toArray.size ≤ 12; rw [List.size_toArray]; exact h2, fun c hc => h c (by simpa using hc)⟩
theorem al_mod (n : Nat) (h : n < 26) : Al (97 + n) := by unfold Al; omega
theorem app_list (a b : Str) : (a ++ b).cps.toList = a.cps.toList ++ b.cps.toList := by
  show (a.cps ++ b.cps).toList = _
  simp
theorem app_len (a b : Str) : (a ++ b).length = a.length + b.length := by
  show (a.cps ++ b.cps).size = _
  rw [Array.size_append]; rfl
end Vm

set_option Elab.async false
set_option linter.all false
set_option maxRecDepth 100000
set_option maxHeartbeats 4000000
/-! text.split(sep); a text as words with a sign between. -/
namespace L3
open PySem PySem.Spec PyProof.Rows L2
open Builtin Builtin.Str
section
variable {X : Cx}
theorem vals_values : ∀ l : List (Str × Tok), Vals ((l.map (·.1)).map V.str) (strValues l)
  | [] => .nil
  | (z, t) :: r => .cons ⟨t, rfl⟩ (vals_values r)
def rSplit : V → List V → Hp → VK → Prop := fun x vs H Q => ∃ z y, x = .str z ∧ vs = [.str y] ∧ 1 ≤ y.length ∧ z.length ≤ 1000000 ∧ ∀ p, H p = none → Q (.ref p) (upd H p (.lst ((Txt.split z y).map V.str)))
theorem mt_split : MtR X "str.split" rSplit := by
  intro pins s σ H x xs v us Q I rx rv h
  obtain ⟨z, y, rfl, rfl, hy, hz, q⟩ := h
  obtain ⟨t, rfl⟩ := rx
  obtain ⟨u, rfl, ru⟩ := rv.one
  obtain ⟨t', rfl⟩ := ru
  have hs := szl
  have hy' : (y.length == 0) = false := by
    rw [beq_eq_false_iff_ne]; omega
  have hlen := PyProof.Rows.split_le z y
  have fin : ∀ (l : List (Str × Tok)) (k : Nat), l.map (·.1) = Txt.split z y → EP X pins σ Q (.ref s.heap.objs.size) { s with heap := s.heap.push { cls := .type "list", data := .seq (strValues l).toArray }, toks := k } := fun l k e => by
    have hv : Vals ((Txt.split z y).map V.str) (strValues l) := by rw [← e]; exact vals_values l
    exact ⟨.ref _, _, I.lnew (t' := k) hv (by rw [List.length_map]; omega), rfl, q _ I.fresh⟩
  have hn : (partsBetween z (occurrences z y 0 z.length (z.length + 1)) y.length).length ≤ sizeLine := by
    have h1 := StrLaws.occ_length_le z y 0 z.length (z.length + 1)
    unfold partsBetween
    simp only [List.length_map, List.length_zip, List.length_cons, List.length_append, List.length_singleton]
    omega
  cases h1 : (decide (z.length < y.length) || decide (strKind z < strKind y))
  · cases hf : (occurrences z y 0 z.length (z.length + 1)).isEmpty
    · refine call_meets F.slot_str_split (typeIs_str _ _ _) F.entry_str_split (F.args_str_split_2 _ _) (meets_str_split_sep z y t t' h1 hy' hf (by omega) hn) ?_
      show EP X pins σ Q (.ref s.heap.objs.size) { s with toks := _, heap := s.heap.push { cls := .type "list", data := .seq (strsFrom s.toks (partsBetween z (occurrences z y 0 z.length (z.length + 1)) y.length)).toArray } }
      rw [strsFrom_eq]
      exact fin (numbered s.toks _) _ ((numbered_texts _ _).trans ((if_neg (ne_true_of_eq_false h1)).trans (if_neg (ne_true_of_eq_false hf))).symm)
    · refine call_meets F.slot_str_split (typeIs_str _ _ _) F.entry_str_split (F.args_str_split_2 _ _) (meets_str_split_not_found z y t t' h1 hy' hf) ?_
      exact fin [(z, t)] s.toks ((if_neg (ne_true_of_eq_false h1)).trans (if_pos hf)).symm
  · refine call_meets F.slot_str_split (typeIs_str _ _ _) F.entry_str_split (F.args_str_split_2 _ _) (meets_str_split_cannot_occur z y t t' h1) ?_
    exact fin [(z, t)] s.toks (if_pos h1).symm
end
end L3

namespace Vm
open PySem L2 L3
/-! ### words with a sign c between, as lists -/
def joinL (c : Nat) : List (List Nat) → List Nat
  | [] => []
  | [l] => l
  | l :: m :: r => l ++ c :: joinL c (m :: r)
def splitL (c : Nat) : List Nat → List (List Nat)
  | [] => [[]]
  | x :: r => if x = c then [] :: splitL c r else match splitL c r with | [] => [[x]] | h :: t => (x :: h) :: t
theorem splitL_app {c : Nat} : ∀ {l : List Nat} (r : List Nat), c ∉ l → splitL c (l ++ c :: r) = l :: splitL c r
  | [], r, _ => by
    show splitL c (c :: r) = _
    unfold splitL
    rw [if_pos rfl]
    cases r <;> rfl
  | x :: l, r, h => by
    have hx : x ≠ c := fun e => h (by rw [e]; exact List.mem_cons_self)
    show splitL c (x :: (l ++ c :: r)) = _
    conv => lhs; unfold splitL
    rw [if_neg hx, splitL_app r fun m => h (List.mem_cons_of_mem _ m)]
theorem splitL_free {c : Nat} : ∀ {l : List Nat}, c ∉ l → splitL c l = [l]
  | [], _ => rfl
  | x :: l, h => by
    have hx : x ≠ c := fun e => h (by rw [e]; exact List.mem_cons_self)
    conv => lhs; unfold splitL
    rw [if_neg hx, splitL_free fun m => h (List.mem_cons_of_mem _ m)]
theorem split_join {c : Nat} : ∀ {ls : List (List Nat)}, ls ≠ [] → (∀ l ∈ ls, c ∉ l) → splitL c (joinL c ls) = ls
  | [], h, _ => absurd rfl h
  | [l], _, h => splitL_free (h l List.mem_cons_self)
  | l :: m :: r, _, h => by
    show splitL c (l ++ c :: joinL c (m :: r)) = _
    rw [splitL_app _ (h l List.mem_cons_self), split_join (ls := m :: r) (fun e => nomatch e) fun x hx => h x (List.mem_cons_of_mem _ hx)]
theorem glue_list (c : Nat) : ∀ ws : List Str, (Txt.join ⟨#[c]⟩ ws).cps.toList = joinL c (ws.map fun z => z.cps.toList)
  | [] => rfl
  | [z] => by
    show (Builtin.Str.glued ⟨#[c]⟩ [z]).cps.toList = _
    unfold Builtin.Str.glued
    simp [joinL]
  | z :: y :: r => by
    have go : ∀ (l : List Str) (acc : Array Nat), (l.foldl (fun acc p => acc ++ (⟨#[c]⟩ : Str).cps ++ p.cps) acc).toList = acc.toList ++ (l.map fun z => c :: z.cps.toList).flatten := by
      intro l
      induction l with
      | nil => intro acc; simp
      | cons a b ih => intro acc; rw [List.foldl_cons, ih]; simp
    have go2 : ∀ (l : List Str) (y : Str), y.cps.toList ++ (l.map fun z => c :: z.cps.toList).flatten = joinL c ((y :: l).map fun z => z.cps.toList) := by
      intro l
      induction l with
      | nil => intro y; simp [joinL]
      | cons a b ih =>
        intro y
        rw [List.map_cons, List.flatten_cons, List.map_cons, List.map_cons]
        show _ = y.cps.toList ++ c :: joinL c (a.cps.toList :: b.map fun z => z.cps.toList)
        have e := ih a
        rw [List.map_cons] at e
        rw [← e]
        simp
    show (Builtin.Str.glued ⟨#[c]⟩ (z :: y :: r)).cps.toList = _
    unfold Builtin.Str.glued
    rw [List.drop_one, List.tail_cons]
    rw [go, ← go2 (y :: r) z]
    rfl
theorem sjoin_list (c : Nat) (ws : List Str) : (Str.join ⟨#[c]⟩ ws).cps.toList = joinL c (ws.map fun z => z.cps.toList) := by
  have e := PyProof.Rows.join_plain_closes ⟨#[c]⟩ ws
  rw [← eq_of_beq e]
  exact glue_list c ws
theorem split_eq (z : Str) (c : Nat) : Txt.split z ⟨#[c]⟩ = (splitL c z.cps.toList).map fun l => (⟨l.toArray⟩ : Str) := by
  have h1 := StrLaws.join_split z ⟨#[c]⟩
  have h2 := StrLaws.split_free z c
  have h3 : Txt.split z ⟨#[c]⟩ ≠ [] := fun e => by
    have := PyProof.Rows.split_pos z ⟨#[c]⟩
    rw [e] at this
    exact absurd this (by decide)
  have h4 : z.cps.toList = joinL c ((Txt.split z ⟨#[c]⟩).map fun z => z.cps.toList) := by
    conv => lhs; rw [← h1]
    exact sjoin_list c _
  rw [h4, split_join (fun e => h3 (List.map_eq_nil_iff.mp e)) fun l hl => ?_, List.map_map]
  · have : ((fun l => (⟨List.toArray l⟩ : Str)) ∘ fun z : Str => z.cps.toList) = id := by funext z; exact str_mk z
    rw [this, List.map_id]
  · obtain ⟨p, hp, rfl⟩ := List.mem_map.mp hl
    exact h2 p hp
end Vm

set_option Elab.async false
set_option linter.all false
set_option maxRecDepth 100000
set_option maxHeartbeats 4000000
/-! AN EXCEPTION IN FLIGHT: what the frames that it passes do to the heap. -/
namespace L3
open PySem PySem.Spec PyProof.Rows L2

abbrev fra (l : List Env) : List Addr := L2.frs l
/-- the exception at e, of the class at C, its newest entry at T, which says fl -/
structure Exc (h : Heap) (e T C : Addr) (fl : Value) : Prop where
  ob : ∃ vs, h.get? e = some { cls := .ref C, data := .fields vs } ∧ vs[1]? = some (.ref T)
  tb : ∃ oT ts, h.get? T = some oT ∧ oT.data = .fields ts ∧ ts[3]? = some fl
  ne : T ≠ e
/-- all but the objects in S is kept, of the frames at fs up to their slots -/
structure Kpt (S fs : List Addr) (h h' : Heap) : Prop where
  keep : ∀ b o, h.get? b = some o → b ∉ S → b ∉ fs → h'.get? b = some o
  slot : ∀ b o, h.get? b = some o → b ∉ S → b ∈ fs → ∃ sl, h'.get? b = some { o with slots := sl }
theorem Kpt.trans {S fs : List Addr} {h h1 h2 : Heap} (a : Kpt S fs h h1) (b : Kpt S fs h1 h2) : Kpt S fs h h2 :=
  ⟨fun c o e n m => b.keep c o (a.keep c o e n m) n m, fun c o e n m => by
    obtain ⟨sl, e1⟩ := a.slot c o e n m
    obtain ⟨sl2, e2⟩ := b.slot c _ e1 n m
    exact ⟨sl2, e2⟩⟩
theorem Kpt.mono {S S' fs : List Addr} {h h' : Heap} (a : Kpt S fs h h') (k : ∀ b ∈ S, b ∈ S') : Kpt S' fs h h' :=
  ⟨fun c o e n m => a.keep c o e (fun z => n (k c z)) m, fun c o e n m => a.slot c o e (fun z => n (k c z)) m⟩
theorem Kpt.any {S fs : List Addr} {h h' : Heap} (a : Kpt S fs h h') {b : Addr} {o : Obj} (e : h.get? b = some o) (n : b ∉ S) : ∃ sl, h'.get? b = some { o with slots := sl } := by
  by_cases m : b ∈ fs
  · exact a.slot b o e n m
  · exact ⟨o.slots, a.keep b o e n m⟩
theorem Kpt.funs {S fs : List Addr} {h h' base : Heap} {l : List Env} (a : Kpt S fs h h') (hl : h.FunFrames base l) (hn : ∀ b ∈ S, b ∉ fra l) : h'.FunFrames base l := by
  have go : ∀ (l' : List Env), (∀ b ∈ fra l', b ∈ fra l) → h.FunFrames base l' → h'.FunFrames base l' := by
    intro l'
    induction l' with
    | nil => intro _ _; trivial
    | cons env r ih =>
      intro hs hl'
      obtain ⟨hk, ⟨L, o, hf, h0, ho, hd⟩, hr⟩ := hl'
      have hL : L ∈ fra (env :: r) := by unfold fra frs; rw [List.filterMap_cons, hf]; exact List.mem_cons_self
      obtain ⟨sl, e⟩ := a.any ho fun z => hn L z (hs L hL)
      exact ⟨hk, ⟨L, _, hf, h0, e, hd⟩, ih (fun b hb => hs b (by unfold fra frs; rw [List.filterMap_cons, hf]; exact List.mem_cons_of_mem _ hb)) hr⟩
  exact go l (fun _ z => z) hl

section
variable {M : Model} {A : Around} {E : Value → Shared → Prop} {s : Shared}
theorem not_frame {base : Heap} {l : List Env} {b : Addr} {o : Obj} {vs : Array Value} (hl : s.heap.FunFrames base l) (e : s.heap.get? b = some o) (d : o.data = .fields vs) : b ∉ fra l := fun z => by
  obtain ⟨_, o', e', d'⟩ := hl.mem z
  rw [e] at e'
  cases e'
  exact d' vs d
/-- a new entry is laid -/
theorem entry_new {base : Heap} {env : Env} {outer : List Env} {L e : Addr} {c head : Value} {vs : Array Value} {hadNext : Bool} {Q : Unit → Shared → Prop} (hfr : A.frames = some (env :: outer)) (hl : s.heap.FunFrames base (env :: outer)) (hf : env.frame = some L)
    (he : s.heap.get? e = some { cls := c, data := .fields vs }) (hz : 1 < vs.size)
    (hQ : ∀ h' T, s.heap.objs.size ≤ T → h'.get? e = some { cls := c, data := .fields (vs.setIfInBounds 1 (.ref T)) } → (∃ oT ts, h'.get? T = some oT ∧ oT.data = .fields ts ∧ ts[3]? = some (rawInt L)) → Kpt [e] (fra (env :: outer)) s.heap h' → Q () { s with heap := h' }) :
    wpAny M A (do let a ← frameOf env; let pl ← entryPlaceOf L hadNext; let b ← EntryCells.newEntry head a .none (rawInt L) .none pl; setField (.ref e) 1 b) Q E s := by
  have nfr : e ∉ fra (env :: outer) := not_frame hl he rfl
  refine wpAny_bind (wpAny_frameOf_fun hfr hl hf fun k1 so => ?_)
  refine wpAny_bind (wpAny_entryPlaceOf fun pl ip => ?_)
  unfold EntryCells.newEntry newFields
  refine wpAny_bind (wpAny_newObj_type ?_ (ip.sizeOk5 _ _ _ _ _))
  generalize hob : ({ cls := .type "traceback", dict := none, data := .fields ([head, .ref L, .none, rawInt L, .none] ++ (if pl.isEmpty then List.replicate 6 Value.none else pl)).toArray } : Obj) = ob
  have e1 : k1.get? e = some { cls := c, data := .fields vs } := (so.2.1 e nfr).trans he
  have e2 := Heap.get?_push_of_some (h := k1) ob e1
  have nT : k1.objs.size ≠ e := Nat.ne_of_gt (Heap.lt_size e1)
  refine wpAny_setField e2 rfl hz (hQ _ k1.objs.size (Nat.le_of_eq so.1.symm) ?_ ?_ ⟨fun b o eb nb mb => ?_, fun b o eb nb mb => ?_⟩)
  · exact Heap.get?_update_self _ e2 rfl
  · refine ⟨ob, ([head, .ref L, .none, rawInt L, .none] ++ (if pl.isEmpty then List.replicate 6 Value.none else pl)).toArray, ?_, by rw [← hob], by simp⟩
    rw [Heap.get?_update_other _ _ (Ne.symm nT)]
    exact Heap.get?_push_size k1 (by rw [← hob]; rfl)
  · have nb' : b ≠ e := fun z => nb (by rw [z]; exact List.mem_cons_self)
    rw [Heap.get?_update_other _ _ (Ne.symm nb')]
    exact Heap.get?_push_of_some _ ((so.2.1 b mb).trans eb)
  · have nb' : b ≠ e := fun z => nb (by rw [z]; exact List.mem_cons_self)
    obtain ⟨sl, q⟩ := so.2.2 b o eb
    exact ⟨sl, by rw [Heap.get?_update_other _ _ (Ne.symm nb')]; exact Heap.get?_push_of_some _ q⟩
theorem set1 {vs : Array Value} {v : Value} (h : 1 < vs.size) : (vs.setIfInBounds 1 v)[1]? = some v := by simp [h]
/-- a frame is noted: of a new exception -/
theorem note_new {base : Heap} {env : Env} {outer : List Env} {L e C : Addr} {vs : Array Value} {Q : Unit → Shared → Prop} (hfr : A.frames = some (env :: outer)) (hl : s.heap.FunFrames base (env :: outer)) (hf : env.frame = some L)
    (he : s.heap.get? e = some { cls := .ref C, data := .fields vs }) (h1 : vs[1]? = some .none)
    (hQ : ∀ h' T, s.heap.objs.size ≤ T → Exc h' e T C (rawInt L) → Kpt [e] (fra (env :: outer)) s.heap h' → Q () { s with heap := h' }) : wpAny M A (noteFrame (.ref e) env) Q E s := by
  have hz : 1 < vs.size := (Array.getElem?_eq_some_iff.mp h1).1
  unfold noteFrame
  simp only [hf]
  refine wpAny_bind (wpAny_field he rfl h1 ?_)
  rw [if_neg (by decide)]
  refine entry_new hfr hl hf he hz fun h' T hT ho ht kp => hQ h' T hT ⟨⟨_, ho, set1 hz⟩, ht, fun z => ?_⟩ kp
  rw [z] at hT
  exact absurd (Heap.lt_size he) (Nat.not_lt.mpr hT)
/-- .. of one that comes from a callee -/
theorem note_on {base : Heap} {env : Env} {outer : List Env} {L e T0 C : Addr} {Q : Unit → Shared → Prop} (hfr : A.frames = some (env :: outer)) (hl : s.heap.FunFrames base (env :: outer)) (hf : env.frame = some L) (x : Exc s.heap e T0 C .none)
    (hQ : ∀ h' T, s.heap.objs.size ≤ T → Exc h' e T C (rawInt L) → Kpt [e, T0] (fra (env :: outer)) s.heap h' → Q () { s with heap := h' }) : wpAny M A (noteFrame (.ref e) env) Q E s := by
  obtain ⟨⟨vs, he, h1⟩, ⟨oT, ts, hT, dT, h3⟩, ne⟩ := x
  have hz : 1 < vs.size := (Array.getElem?_eq_some_iff.mp h1).1
  unfold noteFrame
  simp only [hf]
  refine wpAny_bind (wpAny_field he rfl h1 ?_)
  rw [if_pos (show (Value.ref T0 != Value.none) = true by simp)]
  refine wpAny_bind (wpAny_field hT dT h3 ?_)
  rw [if_neg (show ¬ ((Value.none == rawInt L) = true) by simp [rawInt])]
  refine wpAny_bind (wpAny_setField hT dT (Array.getElem?_eq_some_iff.mp h3).1 ?_)
  have oth : ∀ b, b ≠ T0 → (s.heap.update T0 (Obj.mapFields (·.setIfInBounds 3 Value.none))).get? b = s.heap.get? b := fun b hb => Heap.get?_update_other _ _ (Ne.symm hb)
  have k0 : Kpt [e, T0] (fra (env :: outer)) s.heap (s.heap.update T0 (Obj.mapFields (·.setIfInBounds 3 Value.none))) := ⟨fun b o eb nb _ => (oth b fun z => nb (by rw [z]; simp)).trans eb, fun b o eb nb _ => ⟨o.slots, (oth b fun z => nb (by rw [z]; simp)).trans eb⟩⟩
  have hl' : (s.heap.update T0 (Obj.mapFields (·.setIfInBounds 3 Value.none))).FunFrames base (env :: outer) := k0.funs hl fun b hb => by
    rcases List.mem_cons.mp hb with z | z
    · rw [z]; exact not_frame hl he rfl
    · rw [List.mem_singleton.mp z]; exact not_frame hl hT dT
  refine entry_new (s := { s with heap := s.heap.update T0 (Obj.mapFields (·.setIfInBounds 3 Value.none)) }) hfr hl' hf ((oth e (Ne.symm ne)).trans he) hz fun h' T hle ho ht kp => ?_
  have hsz : (s.heap.update T0 (Obj.mapFields (·.setIfInBounds 3 Value.none))).objs.size = s.heap.objs.size := Heap.size_after_update ..
  have hle' : s.heap.objs.size ≤ T := by rw [← hsz]; exact hle
  refine hQ h' T hle' ⟨⟨_, ho, set1 hz⟩, ht, fun z => ?_⟩ (k0.trans (kp.mono fun b hb => by rw [List.mem_singleton.mp hb]; simp))
  rw [z] at hle'
  exact absurd (Heap.lt_size he) (Nat.not_lt.mpr hle')
/-- the entry says another thing -/
theorem flight_set {e T C : Addr} {fl : Value} {to : Option Addr} {Q : Unit → Shared → Prop} (x : Exc s.heap e T C fl)
    (hQ : ∀ h', Exc h' e T C (to.elim Value.none fun f => rawInt f) → (∀ b, b ≠ T → h'.get? b = s.heap.get? b) → h'.objs.size = s.heap.objs.size → Q () { s with heap := h' }) : wpAny M A (setFlight (.ref e) to) Q E s := by
  obtain ⟨⟨vs, he, h1⟩, ⟨oT, ts, hT, dT, h3⟩, ne⟩ := x
  have hz : 3 < ts.size := (Array.getElem?_eq_some_iff.mp h3).1
  unfold setFlight
  refine wpAny_bind (wpAny_field he rfl h1 ?_)
  rw [if_pos (show (Value.ref T != Value.none) = true by simp)]
  have oth : ∀ b, b ≠ T → (s.heap.update T (Obj.mapFields (·.setIfInBounds 3 (to.elim Value.none fun f => rawInt f)))).get? b = s.heap.get? b := fun b hb => Heap.get?_update_other _ _ (Ne.symm hb)
  refine wpAny_setField hT dT hz (hQ _ ⟨⟨vs, (oth e (Ne.symm ne)).trans he, h1⟩, ⟨_, _, Heap.get?_update_self _ hT (Obj.isFreed_of_fields (Obj.data_mapFields dT _)), Obj.data_mapFields dT _, by simp [hz]⟩, ne⟩ oth (Heap.size_after_update ..))
end

section
variable {M : Model} {A : Around} {E : Value → Shared → Prop}
end

/-! ### the heap behind an exception -/
section
variable {P : Program} {w : World} {H H' : Hp} {h h1 h2 : Heap} {fs fs' S ex : List Addr}
theorem objOk_there {a : Addr} {o : HO} (x : ObjOk P w H h a o) : ∃ ob, h.get? a = some ob := by
  cases o with
  | lst xs => obtain ⟨_, _, _, _, e⟩ := x; exact ⟨_, e⟩
  | tup xs => obtain ⟨_, _, _, ob, e, _⟩ := x; exact ⟨_, e⟩
  | dK kvs => obtain ⟨_, _, _, _, o, _, _, e, _⟩ := x; exact ⟨_, e⟩
  | dT kvs => exact False.elim x
  | set S n => obtain ⟨o, _, _, _, e, _⟩ := x; exact ⟨_, e⟩
  | ins C dx f => obtain ⟨_, _, _, e, _⟩ := x; exact ⟨_, e⟩
  | own y => exact x
  | xd f => obtain ⟨_, ⟨_, _, _, e, _⟩, _⟩ := x; exact ⟨_, e⟩
  | rng lo hi => obtain ⟨_, _, _, e⟩ := x; exact ⟨_, e⟩
  | frz ob u => exact ⟨_, x.1⟩
  | tbl ps => exact ⟨_, show h.get? a = some _ from x⟩
  | met f y => exact ⟨_, show h.get? a = some _ from x⟩
  | ext φ => exact x.2.1
theorem hok_none (k : HOk P w H h) {a : Addr} (e : h.get? a = none) : H a = none := by
  cases q : H a with
  | none => rfl
  | some o =>
    obtain ⟨ob, z⟩ := objOk_there (k a o q)
    rw [e] at z
    cases z
theorem un_kpt (u : Un fs ex H H' h h1) (k : Kpt S fs' h1 h2) (hS : ∀ b ∈ S, h.get? b = none) (hf : ∀ b ∈ fs', b ∈ fs ∨ h.get? b = none) : Un fs ex H H' h h2 where
  keep := fun b o e n hb hx => k.keep b o (u.keep b o e n hb hx) (fun z => by rw [hS b z] at e; cases e) fun z => by
    rcases hf b z with q | q
    · exact hb q
    · rw [q] at e; cases e
  slot := fun b o e n hb hx => by
    obtain ⟨sl, q⟩ := u.slot b o e n hb hx
    obtain ⟨sl', q'⟩ := k.any q fun z => by rw [hS b z] at e; cases e
    exact ⟨sl', q'⟩
  free := u.free
  there := fun b o e hx => by
    obtain ⟨o', q⟩ := u.there b o e hx
    obtain ⟨sl, q'⟩ := k.any q fun z => by rw [hS b z] at e; cases e
    exact ⟨_, q'⟩
  tups := u.tups
  frzs := u.frzs
  tbls := u.tbls
theorem hok_kpt (x : HOk P w H h1) (k : Kpt S fs' h1 h2) (hS : ∀ b ∈ S, H b = none) (hf : ∀ b ∈ fs', H b = none) : HOk P w H h2 := fun b o e =>
  (x b o e).stay (fun c v hc q => by
    have hn : H c ≠ none := by
      rcases hc with z | z
      · rw [z, e]; exact fun z => nomatch z
      · rw [z]; exact fun z => nomatch z
    exact k.keep c v q (fun z => hn (hS c z)) fun z => hn (hf c z)) (fun _ q => q) fun _ _ q => q
end

section
variable {X : Cx} {pins : List (Addr × Obj)} {σ : L2.St} {H : Hp} {s : Shared} {S : List Addr}
/-- the records in S have turned, the frames that run up to slots -/
theorem inv_kpt {h' : Heap} {t' : Nat} (I : Inv X pins σ H s) (k : Kpt S (frs X.stack) s.heap h') (h0 : ∀ b ∈ S, X.s₀.heap.get? b = none) (hl : ∀ b ∈ S, b ≠ X.env.locals) (hc : ∀ b ∈ S, ∀ x c, X.env.cells.lookup x = some c → c ≠ b)
    (hp : ∀ b ∈ S, ∀ p ∈ X.pn ++ pins, p.1 ≠ b) (hn : ∀ b ∈ S, H b = none) : Inv X pins σ H { s with heap := h', toks := t' } where
  ok := I.ok
  os := I.os
  bare := I.bare
  base := un_kpt I.base k h0 fun b hb => by
    rcases List.mem_cons.mp (I.stkSub b hb) with z | z
    · refine .inr ?_
      rw [z]
      exact Heap.get?_none_of_le I.ok.above
    · exact .inl z
  loc := by
    obtain ⟨m, ⟨o, es, ep, ho, r⟩, hv⟩ := I.loc
    obtain ⟨sl, q⟩ := k.any ho fun z => hl _ z rfl
    refine ⟨m, ⟨_, es, ep, q, r⟩, fun i x v e1 e2 e3 => ?_⟩
    obtain ⟨u, ru, l⟩ := hv i x v e1 e2 e3
    refine ⟨u, ru, ?_⟩
    rcases l with l | ⟨kk, c, e, oc, hoc, hd⟩
    · exact .inl l
    · obtain ⟨sl', q'⟩ := k.any hoc fun z => hc c z x c e rfl
      exact .inr ⟨kk, c, e, _, q', hd⟩
  cell := fun x c e => by
    obtain ⟨v, oc, hoc, hd⟩ := I.cell x c e
    obtain ⟨sl', q'⟩ := k.any hoc fun z => hc c z x c e rfl
    exact ⟨v, _, q', hd⟩
  free := I.free
  freeC := I.freeC
  pin := fun p hp' => by
    obtain ⟨e, n, ne, nf, d⟩ := I.pin p hp'
    refine ⟨k.keep p.1 p.2 e (fun z => hp p.1 z p hp' rfl) (fun z => ?_), n, ne, nf, d⟩
    rcases List.mem_cons.mp (I.stkSub p.1 z) with q | q
    · exact ne q
    · exact nf q
  hok := hok_kpt I.hok k hn I.stkFree
  len := I.len
/-- an object that stands there is tracked -/
theorem inv_track {a : Addr} {o : HO} (I : Inv X pins σ H s) (h0 : X.s₀.heap.get? a = none) (hl : a ≠ X.env.locals) (hc : ∀ x c, X.env.cells.lookup x = some c → c ≠ a) (hp : ∀ p ∈ X.pn ++ pins, p.1 ≠ a) (hn : H a = none)
    (ok : ObjOk X.prog X.w (upd H a o) s.heap a o) : Inv X pins σ (upd H a o) s where
  ok := I.ok
  os := I.os
  bare := I.bare
  base := ⟨I.base.keep, I.base.slot, fun b ob e n hx => by rw [upd_ne fun z => by rw [z, h0] at e; cases e]; exact I.base.free b ob e n hx, I.base.there,
    fun b xs e => by have q := I.base.tups b xs e; rw [upd_ne (ne_of_none q hn)]; exact q, fun b ob u e => by have q := I.base.frzs b ob u e; rw [upd_ne (ne_of_none q hn)]; exact q,
    fun b ps e => by obtain ⟨m, q⟩ := I.base.tbls b ps e; exact ⟨m, by rw [upd_ne (ne_of_none q hn)]; exact q⟩⟩
  loc := I.loc
  cell := I.cell
  free := by rw [upd_ne (Ne.symm hl)]; exact I.free
  freeC := fun x c e => by rw [upd_ne (hc x c e)]; exact I.freeC x c e
  pin := fun p hp' => by
    obtain ⟨e, n, r⟩ := I.pin p hp'
    exact ⟨e, by rw [upd_ne (hp p hp')]; exact n, r⟩
  hok := fun b u e => by
    by_cases hb : b = a
    · subst hb; rw [upd_same] at e; cases e; exact ok
    · rw [upd_ne hb] at e
      exact (I.hok b u e).stay (fun _ _ _ q => q) (fun c q => by rw [upd_ne (ne_of_none q hn)]; exact q) fun c xs q => by rw [upd_ne (ne_of_none q hn)]; exact q
  len := I.len
end

/-! ### how an exception lies behind a call -/
def CXv (P : Program) (w : World) : CXT := fun outer H s E e s' => ∃ (ea T C : Addr) (H' : Hp), e = .ref ea ∧ Exc s'.heap ea T C .none ∧ s.heap.get? ea = none ∧ s.heap.get? T = none ∧ H' ea = none ∧ H' T = none ∧
  s'.os = s.os ∧ AllBare s'.gens ∧ Un (frs outer) [] H H' s.heap s'.heap ∧ HOk P w H' s'.heap ∧ E (.ref C) none H'
/-- what is raised here is wanted so -/
def Lands (X : Cx) (E : XK) : Prop := ∀ (pins : List (Addr × Obj)) (σ : L2.St) (H : Hp) (s : Shared) (h' : Heap) (ea C : Addr) (vs : Array Value), Inv X pins σ H s → (∀ b o, s.heap.get? b = some o → h'.get? b = some o) → s.heap.get? ea = none →
  h'.get? ea = some { cls := .ref C, data := .fields vs } → vs[1]? = some .none → E (.ref C) none H → X.xe (.ref ea) { s with heap := h' }

section
variable {P : Program} {w : World} {K : PySem.W.Frag} {mg : Str → Option Value} {base : Heap} {N : List Str} {qual : Str} {scope : Scope} {f : Addr} {cd : Value} {A : Around} {outer : List Env} {s0 : Shared} {H0 : Hp} {E : XK}
theorem old_none {X : Cx} {pins : List (Addr × Obj)} {σ : L2.St} {H : Hp} {s : Shared} (I : Inv X pins σ H s) (hex : X.ex = []) {b : Addr} (e : s.heap.get? b = none) : X.s₀.heap.get? b = none := by
  cases q : X.s₀.heap.get? b with
  | none => rfl
  | some o =>
    obtain ⟨o', z⟩ := I.base.there b o q (by rw [hex]; simp)
    rw [e] at z
    cases z
theorem size_none {h : Heap} {b : Addr} (e : h.objs.size ≤ b) : h.get? b = none := Heap.get?_none_of_le e
theorem lands_def : Lands (cxOf (CXv P w) P w K mg base N qual scope f cd A outer s0 H0 E) E := by
  intro pins σ H s h' ea C vs I kp new ho h1 hE
  have I' := I.kept (t' := s.toks) (h' := h') kp
  have st := I'.stack
  show wpAny (model P w) (A.deeper (envOfC qual scope s0.heap.objs.size f cd)) (leaving (envOfC qual scope s0.heap.objs.size f cd) (.ref ea)) _ _ { s with heap := h' }
  unfold leaving
  refine wpAny_bind (note_new (s := { s with heap := h' }) (base := base) (outer := outer) (L := s0.heap.objs.size) I'.ok.frames st rfl ho h1 fun k1 T hT x1 kp1 => ?_)
  refine flight_set (to := none) x1 fun k2 x2 oth sz => ?_
  have nT : ∀ b o, h'.get? b = some o → b ≠ T := fun b o e z => by
    rw [z] at e
    exact absurd (Heap.lt_size e) (Nat.not_lt.mpr hT)
  have kp2 : Kpt [ea] (frs ((cxOf (CXv P w) P w K mg base N qual scope f cd A outer s0 H0 E).stack)) h' k2 := ⟨fun b o e n m => (oth b (nT b o e)).trans (kp1.keep b o e n m), fun b o e n m => by
    obtain ⟨sl, q⟩ := kp1.slot b o e n m
    exact ⟨sl, (oth b (nT b o e)).trans q⟩⟩
  have n0 : s0.heap.get? ea = none := old_none I rfl new
  have hne : H ea = none := hok_none I.hok new
  have n1 : h'.get? T = none := size_none hT
  have hnT : H T = none := hok_none I'.hok n1
  have hs : ∀ b ∈ [ea], s0.heap.get? b = none := fun b hb => by rw [List.mem_singleton.mp hb]; exact n0
  refine ⟨ea, T, C, H, rfl, x2, n0, old_none I' rfl n1, hne, hnT, I.os, I.bare, un_kpt I'.base kp2 hs fun b hb => ?_, hok_kpt I'.hok kp2 (fun b hb => by rw [List.mem_singleton.mp hb]; exact hne) I'.stkFree, hE⟩
  rcases List.mem_cons.mp (I'.stkSub b hb) with z | z
  · exact .inr (by rw [z]; exact size_none I.ok.above)
  · exact .inl z
theorem passes_def : Passes (CXv P w) (cxOf (CXv P w) P w K mg base N qual scope f cd A outer s0 H0 E) E := by
  intro pins σ H s e s' I hx
  obtain ⟨ea, T0, C, H', rfl, x, n1, n2, t1, t2, os, bare, un, hok, hE⟩ := hx
  have I' : Inv (cxOf (CXv P w) P w K mg base N qual scope f cd A outer s0 H0 E) pins σ H' s' := I.call' os un hok bare fun b z => absurd z (by simp)
  have st := I'.stack
  show wpAny (model P w) (A.deeper (envOfC qual scope s0.heap.objs.size f cd)) (leaving (envOfC qual scope s0.heap.objs.size f cd) (.ref ea)) _ _ s'
  unfold leaving
  refine wpAny_bind (note_on (base := base) (outer := outer) (L := s0.heap.objs.size) I'.ok.frames st rfl x fun k1 T hT x1 kp1 => ?_)
  refine flight_set (to := none) x1 fun k2 x2 oth sz => ?_
  have nT : ∀ b o, s'.heap.get? b = some o → b ≠ T := fun b o e z => by
    rw [z] at e
    exact absurd (Heap.lt_size e) (Nat.not_lt.mpr hT)
  have kp2 : Kpt [ea, T0] (frs ((cxOf (CXv P w) P w K mg base N qual scope f cd A outer s0 H0 E).stack)) s'.heap k2 := ⟨fun b o e n m => (oth b (nT b o e)).trans (kp1.keep b o e n m), fun b o e n m => by
    obtain ⟨sl, q⟩ := kp1.slot b o e n m
    exact ⟨sl, (oth b (nT b o e)).trans q⟩⟩
  have n0 : s0.heap.get? ea = none := old_none I rfl n1
  have n3 : s'.heap.get? T = none := size_none hT
  have two : ∀ {Pr : Addr → Prop}, Pr ea → Pr T0 → ∀ b ∈ [ea, T0], Pr b := fun {Pr} a c b hb => by
    rcases List.mem_cons.mp hb with z | z
    · rw [z]; exact a
    · rw [List.mem_singleton.mp z]; exact c
  refine ⟨ea, T, C, H', rfl, x2, n0, old_none I' rfl n3, t1, hok_none I'.hok n3, I'.os, I'.bare, un_kpt I'.base kp2 (two n0 (old_none I rfl n2)) fun b hb => ?_, hok_kpt I'.hok kp2 (two t1 t2) I'.stkFree, hE⟩
  rcases List.mem_cons.mp (I'.stkSub b hb) with z | z
  · exact .inr (by rw [z]; exact size_none I.ok.above)
  · exact .inl z
/-- a def that may raise -/
theorem Fun.okX {x : Str} {st : Stmt} {f : Addr} {fd : FuncData} {N ps : List Str} {k : Nat} {sp : Sp} (F : Fun K x x st f fd) (S : FnScope N ps (defScope st)) (len : ∀ vs H Q E, sp vs H Q E → vs.length = ps.length)
    (hbody : ∀ (cdv : Value) (A : Around) (outer : List Env) (s : Shared) (H : Hp) (vs : List V) (Q : VK) (E : XK), Room k (A.deeper (envOfC x (defScope st) s.heap.objs.size f cdv)) → sp vs H Q E →
      ∃ t, PSs (cxOf (CXv P w) P w K mg base N x (defScope st) f cdv A outer s H E) (defBody st) t ∧ t { nx := fun _ H' => Q .non H', rt := Q } (start N vs) H) : FnOk P w K mg base (CXv P w) (k + 1) f fd ps sp := by
  obtain ⟨oc, od, kV, doc, pm, an, cdv, ct, osl, rfl, lk, hcd⟩ := F.ex
  exact fn_of lk hcd S len fun A outer s H vs Q E hr hsp => hbody cdv A outer s H vs Q E hr hsp
/-- .. and leaves nothing behind, either way -/
def SpX (sp : Sp) : Sp := fun vs H Q2 E2 => ∃ (Q : VK) (E : XK), (∀ v H', Rst H H' (Q v) → Q2 v H') ∧ (∀ c o H', Rst H H' (E c o) → E2 c o H') ∧ sp vs H Q E
theorem FnOk.rstX {k : Nat} {f : Addr} {fd : FuncData} {ps : List Str} {sp : Sp} (F : FnOk P w K mg base (CXv P w) k f fd ps (SpX sp)) : FnOk P w K mg base (CXv P w) k f fd ps sp :=
  ⟨fun vs H Q E h => F.len vs H (fun v H' => Rst H H' (Q v)) (fun c o H' => Rst H H' (E c o)) ⟨Q, E, fun _ _ z => z, fun _ _ _ z => z, h⟩, fun A outer s H args us vs Q E hr he hb hv hs =>
    codeAny_mono (F.run A outer s H args us vs (fun v H' => Rst H H' (Q v)) (fun c o H' => Rst H H' (E c o)) hr he hb hv ⟨Q, E, fun _ _ z => z, fun _ _ _ z => z, hs⟩) fun r s' hq => by
      cases r with
      | error e =>
        obtain ⟨ea, T, C, H', e0, x, n1, n2, t1, t2, os, bare, un, hok, Hr, s1, s2, hn, q⟩ := hq
        exact ⟨ea, T, C, Hr, e0, x, n1, n2, s2.free t1, s2.free t2, os, bare, un_rst un s1 s2, hok_rst he.hok hok s1 s2 hn, q⟩
      | ok fl =>
        cases fl with
        | ret u =>
          obtain ⟨v, H', e1, e2, e3, e4, e5, Hr, s1, s2, hn, q⟩ := hq
          exact ⟨v, Hr, e1, e2, un_rst e3 s1 s2, hok_rst he.hok e4 s1 s2 hn, e5, q⟩
        | next => exact False.elim hq
        | brk => exact False.elim hq
        | cont => exact False.elim hq⟩
theorem Fun.okXR {x : Str} {st : Stmt} {f : Addr} {fd : FuncData} {N ps : List Str} {k : Nat} {sp : Sp} (F : Fun K x x st f fd) (S : FnScope N ps (defScope st)) (len : ∀ vs H Q E, sp vs H Q E → vs.length = ps.length)
    (hbody : ∀ (cdv : Value) (A : Around) (outer : List Env) (s : Shared) (H : Hp) (vs : List V) (Q Q2 : VK) (E E2 : XK), Room k (A.deeper (envOfC x (defScope st) s.heap.objs.size f cdv)) → sp vs H Q E → (∀ v H', Rst H H' (Q v) → Q2 v H') → (∀ c o H', Rst H H' (E c o) → E2 c o H') →
      ∃ t, PSs (cxOf (CXv P w) P w K mg base N x (defScope st) f cdv A outer s H E2) (defBody st) t ∧ t { nx := fun _ H' => Q2 .non H', rt := Q2 } (start N vs) H) : FnOk P w K mg base (CXv P w) (k + 1) f fd ps sp :=
  FnOk.rstX (Fun.okX F S (fun vs H Q2 E2 ⟨Q, E, _, _, h⟩ => len vs H Q E h) fun cdv A outer s H vs Q2 E2 hr ⟨Q, E, hq, hE, h⟩ => hbody cdv A outer s H vs Q Q2 E E2 hr h hq hE)
end

/-! ### raise C(text) -/
theorem exc_obj {K : PySem.W.Frag} {h : Heap} {C : Addr} {bmB : List Value} {newId : String} (X : K.In h) (q : PySem.W.excIn K C bmB newId = true) :
    ∃ bm N nm qn bs hd sn sub ab col dd k0 k1 k2 k3 k5 mN, K.lookup C = some (excClassObj nm qn C N bs bm hd sn sub ab col dd k0 k1 k2 k3 k5 newId) ∧ h.Ns N mN ∧ mN "__init__" = none ∧ PySem.W.tailIn K bmB bm = true := by
  unfold PySem.W.excIn at q
  cases e1 : K.lookup C with
  | none => rw [e1] at q; cases q
  | some ob =>
    rw [e1] at q
    obtain ⟨cl, dd, dt, sl⟩ := ob
    split at q
    · rename_i dd' cd sl' hq
      cases hq
      split at q
      · rename_i C' bm k0 k1 k2 k3 n k5 hm hs
        simp only [Bool.and_eq_true, beq_iff_eq, Bool.not_eq_true'] at q
        obtain ⟨⟨⟨⟨⟨rfl, rfl⟩, hdel⟩, ht⟩, hok⟩, hni⟩ := q
        obtain ⟨nm, bs, mro, ns, qn, hd, sn, sub, ab, col, del⟩ := cd
        dsimp only at hm hdel hok hni
        subst hm hdel
        have hsl : sl = #[k0, k1, k2, k3, some (.builtin n), k5] := by
          cases sl
          exact congrArg Array.mk hs
        subst hsl
        exact ⟨bm, ns, nm, qn, bs, hd, sn, sub, ab, col, dd, k0, k1, k2, k3, k5, _, rfl, .of_isNs (PySem.W.isNs_of_in X hok), PySem.W.nsMap_none_of_in X hok hni, ht⟩
      · cases q
    · cases q
def vmro : List Value := [.type "ValueError", .type "Exception", .type "BaseException", .type "object"]
/-- a class of the text that stands somewhere beneath ValueError -/
abbrev VEx (K : PySem.W.Frag) (C : Addr) : Prop := PySem.W.excIn K C vmro "ValueError.__new__" = true
section
variable {X : Cx} {x : Str} {C : Addr} {a : Expr} {ta : TE} {E : XK} {np cpos pos : Pos}
def tRaise (C : Addr) (ta : TE) (E : XK) : TS := fun _ σ H => tCons ta tNil σ H fun vs H1 => vs.length ≤ sizeLine ∧ E (.ref C) none H1
theorem ps_raise (hc : X.calm = true) (hg : Gl X x) (hm : X.mg x = some (.ref C)) (hx : VEx X.K C) (L : Lands X E) (ha : PE X a ta) (hdb : (x == ("__debug__" : Str)) = false := by decide)
    (hs : starEach [a] X.env = [(false, eval a X.env)] := by rfl) (hpl : (backTo cpos (starEach [a] X.env)).any (·.1) = false := by rfl) :
    PS X (.Raise (some (.Call (.Name x np) [a] [] cpos)) none pos) (tRaise C ta E) := by
  intro pins s σ H D I h
  obtain ⟨bm, N, nm, qn, bs, hd, sn, sub, ab, col, dd, k0, k1, k2, k3, k5, mN, e, hN, hni, ht⟩ := exc_obj I.ok.mod.kin hx
  have T0 := PySem.W.tail_of_in I.kIn ht
  refine wpAny_Raise_call_subT (C := C) (nm := nm) (q := qn) (N := N) (bs := bs) (bm := bm) (hdct := hd) (sn := sn) (sub := sub) (ab := ab) (col := col) (dd := dd) (k0 := k0) (k1 := k1) (k2 := k2) (k3 := k3) (k5 := k5) (mN := mN) F.excBase_ValueError (T0.hasType (by decide)) (I.ok.hd hc) hpl hni (ld_glob I hg hm ⟨rfl, ?_⟩ hdb)
  have pa : PA X [a] (tCons ta tNil) := pa_cons ha pa_nil hs
  have hA := pa cpos pins s σ H _ I h
  rw [hs] at hA ⊢
  refine Calls.evalArgs_plain (thn hA fun us s2 ⟨vs, H2, I2, r, hz, q⟩ => ?_)
  refine ⟨rfl, by rw [← r.length]; exact hz, I2.kIn _ _ e, hN.keeps I2.bk, PySem.W.tail_of_in I2.kIn ht, fun h' ea hm' => ?_⟩
  obtain ⟨t, he, _, _⟩ := hm'.there
  exact L pins σ H2 s2 h' ea C _ I2 hm'.keeps hm'.new he rfl q
end

/-! ### try: x = f(..) except C as n: .. -/
section
variable {X : Cx} {pins : List (Addr × Obj)} {σ : L2.St} {H : Hp} {s : Shared} {ea : Addr}
end
section
variable {X : Cx} {CX : CXT} {k : Nat} {f : Addr} {fd : FuncData} {ps : List Str} {sp : Sp} {fx x n c : Str} {e : Expr} {es : List Expr} {ta : TA} {p pos : Pos}
end
end L3

set_option Elab.async false
set_option linter.all false
set_option maxRecDepth 100000
set_option maxHeartbeats 4000000
/-! == of lists and tuples; isinstance of an exception; a loop over a text. -/
namespace L3
open PySem PySem.Spec PyProof.Rows L2

/-! ### a loop over a text -/
/-! ### == of sequences -/
def EqQ (K : PySem.W.Frag) (H : Hp) : Nat → V → V → Bool → Prop
  | 0, x, y, b => flatV x = true ∧ flatV y = true ∧ b = eqV x y
  | n + 1, x, y, b => EqQ K H n x y b ∨ ∃ (p r : Addr) (xs ys : List V) (e : Nat → Bool), x = .ref p ∧ y = .ref r ∧ ((SqL K H p xs ∧ SqL K H r ys) ∨ (SqT K H p xs ∧ SqT K H r ys)) ∧
      (∀ (i : Nat) (x y : V), xs[i]? = some x → ys[i]? = some y → EqQ K H n x y (e i)) ∧ b = (decide (xs.length = ys.length) && (List.range xs.length).all e)
def EqS (K : PySem.W.Frag) (H : Hp) (n : Nat) (x y : V) (b : Bool) : Prop := ∃ (p r : Addr) (xs ys : List V) (e : Nat → Bool), x = .ref p ∧ y = .ref r ∧ ((SqL K H p xs ∧ SqL K H r ys) ∨ (SqT K H p xs ∧ SqT K H r ys)) ∧
      (∀ (i : Nat) (x y : V), xs[i]? = some x → ys[i]? = some y → EqQ K H n x y (e i)) ∧ b = (decide (xs.length = ys.length) && (List.range xs.length).all e)
theorem EqS.q {K : PySem.W.Frag} {H : Hp} {n : Nat} {x y : V} {b : Bool} (h : EqS K H n x y b) : EqQ K H (n + 1) x y b := .inr h
theorem EqQ.flat {K : PySem.W.Frag} {H : Hp} {x y : V} (hx : flatV x = true) (hy : flatV y = true) : ∀ n, EqQ K H n x y (eqV x y)
  | 0 => ⟨hx, hy, rfl⟩
  | n + 1 => .inl (EqQ.flat hx hy n)
theorem eqV_self {x : V} (h : flatV x = true) : eqV x x = true := by
  cases x with
  | non => rfl
  | bl b => show (b == b) = true; simp
  | int b => show (b == b) = true; simp
  | str b => show (b == b) = true; simp
  | _ => exact absurd (show false = true from h) Bool.false_ne_true
theorem EqQ.self {K : PySem.W.Frag} {H : Hp} {x : V} (hx : flatV x = true) (n : Nat) : EqQ K H n x x true := by
  have := EqQ.flat (K := K) (H := H) hx hx n
  rw [eqV_self hx] at this; exact this
theorem all_true (n : Nat) : (List.range n).all (fun _ => true) = true := by simp
/-- two sequences of one length whose items are equal -/
theorem EqS.yes {K : PySem.W.Frag} {H : Hp} {n : Nat} {p r : Addr} {xs ys : List V} (h : (SqL K H p xs ∧ SqL K H r ys) ∨ (SqT K H p xs ∧ SqT K H r ys)) (hl : xs.length = ys.length) (he : ∀ (i : Nat) (x y : V), xs[i]? = some x → ys[i]? = some y → EqQ K H n x y true) : EqS K H n (.ref p) (.ref r) true :=
  ⟨p, r, xs, ys, fun _ => true, rfl, rfl, h, he, by rw [decide_eq_true hl, all_true]; rfl⟩
theorem EqS.same {K : PySem.W.Frag} {H : Hp} {p r : Addr} {xs : List V} (h : (SqL K H p xs ∧ SqL K H r xs) ∨ (SqT K H p xs ∧ SqT K H r xs)) (hf : xs.all flatV = true) : EqS K H 0 (.ref p) (.ref r) true :=
  EqS.yes h rfl fun i x y hx hy => by
    rw [hx] at hy; cases hy
    exact EqQ.self (List.all_eq_true.mp hf x (List.mem_of_getElem? hx)) 0
section
variable {X : Cx} {pins : List (Addr × Obj)} {σ : L2.St} {H : Hp} {s : Shared}
theorem eqq_self (I : Inv X pins σ H s) : ∀ {n : Nat} {x : V} {b : Bool}, EqQ X.K H n x x b → b = true
  | 0, x, b, h => by
    obtain ⟨h1, _, e⟩ := h
    rw [e]; exact eqV_self h1
  | n + 1, x, b, h => by
    rcases h with h | ⟨p, r, xs, ys, e, e1, e2, hq, he, rfl⟩
    · exact eqq_self I h
    · rw [e1] at e2; cases e2
      have exy : xs = ys := by
        rcases hq with ⟨a, c⟩ | ⟨a, c⟩
        · exact I.list_inj a c
        · exact I.tuple_inj a c
      subst exy
      rw [decide_eq_true rfl, Bool.true_and, List.all_eq_true]
      intro i hi
      have hlt := List.mem_range.mp hi
      exact eqq_self I (he i xs[i] xs[i] (List.getElem?_eq_getElem hlt) (List.getElem?_eq_getElem hlt))
theorem vals_at {xs : List V} {us : List Value} (r : Vals xs us) {j : Nat} (h : j < us.length) : ∃ x, xs[j]? = some x ∧ RelV x us[j] := by
  have hx : j < xs.length := by rw [r.length]; exact h
  obtain ⟨u, e, q⟩ := r.get (List.getElem?_eq_getElem hx)
  rw [List.getElem?_eq_getElem h] at e
  cases e
  exact ⟨_, List.getElem?_eq_getElem hx, q⟩
theorem rng_min {a b : Nat} {e : Nat → Bool} : ((List.range (min a b)).all e && a == b) = (decide (a = b) && (List.range a).all e) := by
  by_cases h : a = b
  · subst h; simp
  · simp [h]
/-- the comparison itself, once the items' are known -/
theorem eqs_rc {n : Nat} {A : Around} (I : Inv X pins σ H s) (hu : A.units + 1 < cLine) (ih : ∀ (x y : V) (b : Bool) (u v : Value), RelV x u → RelV y v → EqQ X.K H n x y b → SeqAt.EqAt A.in1 s u v b)
    {p r : Addr} {xs ys : List V} {e : Nat → Bool} (hq : (SqL X.K H p xs ∧ SqL X.K H r ys) ∨ (SqT X.K H p xs ∧ SqT X.K H r ys)) (he : ∀ (i : Nat) (x y : V), xs[i]? = some x → ys[i]? = some y → EqQ X.K H n x y (e i)) :
    SeqAt.RcAt A s (.ref p) (.ref r) (decide (xs.length = ys.length) && (List.range xs.length).all e) := by
  have hu' : A.units < cLine := by omega
  rcases hq with ⟨a, c⟩ | ⟨a, c⟩
  · obtain ⟨is, r1, p1, z1⟩ := I.list a
    obtain ⟨js, r2, p2, z2⟩ := I.list c
    have l1 := r1.length
    have l2 := r2.length
    by_cases hl : xs.length = ys.length
    · rw [decide_eq_true hl, Bool.true_and]
      have q := SeqAt.RcAt.lists (e := e) p1.isList p2.isList (by rw [List.size_toArray, List.size_toArray]; omega) hu' fun j h1 h2 => by
        rw [List.size_toArray] at h1 h2
        obtain ⟨x, ex, rx⟩ := vals_at r1 h1
        obtain ⟨y, ey, ry⟩ := vals_at r2 h2
        rw [List.getElem_toArray, List.getElem_toArray]
        exact ih x y _ _ _ rx ry (he j x y ex ey)
      rw [List.size_toArray, ← l1] at q
      exact q
    · rw [decide_eq_false hl, Bool.false_and]
      exact SeqAt.RcAt.lists_lengths p1.isList p2.isList (by rw [List.size_toArray, List.size_toArray]; simp; omega) hu'
  · obtain ⟨is, r1, p1, z1⟩ := I.tuple a
    obtain ⟨js, r2, p2, z2⟩ := I.tuple c
    have l1 := r1.length
    have l2 := r2.length
    have q := SeqAt.RcAt.tuples (e := e) p1 p2 hu' fun j h1 h2 => by
      rw [List.size_toArray] at h1 h2
      obtain ⟨x, ex, rx⟩ := vals_at r1 h1
      obtain ⟨y, ey, ry⟩ := vals_at r2 h2
      rw [List.getElem_toArray, List.getElem_toArray]
      exact ih x y _ _ _ rx ry (he j x y ex ey)
    rw [List.size_toArray, List.size_toArray, ← l1, ← l2, rng_min] at q
    exact q
theorem eqs_ne {n : Nat} {A : Around} (I : Inv X pins σ H s) (hu : A.units + 1 < cLine) (ih : ∀ (x y : V) (b : Bool) (u v : Value), RelV x u → RelV y v → EqQ X.K H n x y b → SeqAt.EqAt A.in1 s u v b)
    {p r : Addr} {xs ys : List V} {e : Nat → Bool} (hq : (SqL X.K H p xs ∧ SqL X.K H r ys) ∨ (SqT X.K H p xs ∧ SqT X.K H r ys)) (he : ∀ (i : Nat) (x y : V), xs[i]? = some x → ys[i]? = some y → EqQ X.K H n x y (e i)) :
    SeqAt.RcNeAt A s (.ref p) (.ref r) (!(decide (xs.length = ys.length) && (List.range xs.length).all e)) := by
  have hu' : A.units < cLine := by omega
  rcases hq with ⟨a, c⟩ | ⟨a, c⟩
  · obtain ⟨is, r1, p1, z1⟩ := I.list a
    obtain ⟨js, r2, p2, z2⟩ := I.list c
    have l1 := r1.length
    have l2 := r2.length
    by_cases hl : xs.length = ys.length
    · rw [decide_eq_true hl, Bool.true_and]
      have q := SeqAt.RcNeAt.lists (e := e) p1.isList p2.isList (by rw [List.size_toArray, List.size_toArray]; omega) hu' fun j h1 h2 => by
        rw [List.size_toArray] at h1 h2
        obtain ⟨x, ex, rx⟩ := vals_at r1 h1
        obtain ⟨y, ey, ry⟩ := vals_at r2 h2
        rw [List.getElem_toArray, List.getElem_toArray]
        exact ih x y _ _ _ rx ry (he j x y ex ey)
      rw [List.size_toArray, ← l1] at q
      exact q
    · rw [decide_eq_false hl, Bool.false_and]
      exact SeqAt.RcNeAt.lists_lengths p1.isList p2.isList (by rw [List.size_toArray, List.size_toArray]; simp; omega) hu'
  · obtain ⟨is, r1, p1, z1⟩ := I.tuple a
    obtain ⟨js, r2, p2, z2⟩ := I.tuple c
    have l1 := r1.length
    have l2 := r2.length
    have q := SeqAt.RcNeAt.tuples (e := e) p1 p2 hu' fun j h1 h2 => by
      rw [List.size_toArray] at h1 h2
      obtain ⟨x, ex, rx⟩ := vals_at r1 h1
      obtain ⟨y, ey, ry⟩ := vals_at r2 h2
      rw [List.getElem_toArray, List.getElem_toArray]
      exact ih x y _ _ _ rx ry (he j x y ex ey)
    rw [List.size_toArray, List.size_toArray, ← l1, ← l2, rng_min] at q
    exact q
theorem eqq_at (I : Inv X pins σ H s) : ∀ {n : Nat} {A : Around} {x y : V} {b : Bool} {u v : Value}, A.units + n < cLine → RelV x u → RelV y v → EqQ X.K H n x y b → SeqAt.EqAt A s u v b
  | 0, A, x, y, b, u, v, hu, rx, ry, h => by
    obtain ⟨h1, h2, e⟩ := h
    rw [e]; exact eqAt_V rx ry h1 h2
  | n + 1, A, x, y, b, u, v, hu, rx, ry, h => by
    rcases h with h | ⟨p, r, xs, ys, e, rfl, rfl, hq, he, hb⟩
    · exact eqq_at I (by omega) rx ry h
    · cases rx; cases ry
      by_cases hp : p = r
      · subst hp
        have := eqq_self I (n := n + 1) (.inr ⟨p, p, xs, ys, e, rfl, rfl, hq, he, hb⟩)
        rw [this]; exact SeqAt.EqAt.same _
      · rw [hb]
        exact SeqAt.EqAt.of_refs hp (eqs_rc I (by omega) (fun x y b u v rx ry q => eqq_at I (A := A.in1) (by show A.units + 1 + n < cLine; omega) rx ry q) hq he)
theorem op_eqS (hu : X.A.units + 64 < cLine) : OpR X (compareOp .Eq) (fun x y H Q => ∃ n b, n ≤ 20 ∧ EqS X.K H n x y b ∧ Q (.bl b) H) := by
  intro pins s σ H x y v u Q I rx ry h
  obtain ⟨n, b, hn, ⟨p, r, xs, ys, e, rfl, rfl, hq, he, rfl⟩, q⟩ := h
  cases rx; cases ry
  exact eqs_rc I (by omega) (fun x y b u v rx ry q => eqq_at I (A := X.A.in1) (by show X.A.units + 1 + n < cLine; omega) rx ry q) hq he _ _ _ _ ⟨.bl _, H, I, rfl, q⟩
theorem op_neS (hu : X.A.units + 64 < cLine) : OpR X (compareOp .NotEq) (fun x y H Q => ∃ n b, n ≤ 20 ∧ EqS X.K H n x y b ∧ Q (.bl (!b)) H) := by
  intro pins s σ H x y v u Q I rx ry h
  obtain ⟨n, b, hn, ⟨p, r, xs, ys, e, rfl, rfl, hq, he, rfl⟩, q⟩ := h
  cases rx; cases ry
  exact eqs_ne I (by omega) (fun x y b u v rx ry q => eqq_at I (A := X.A.in1) (by show X.A.units + 1 + n < cLine; omega) rx ry q) hq he _ _ _ _ ⟨.bl _, H, I, rfl, q⟩
end

end L3
namespace L3
open PySem PySem.Spec PyProof.Rows L2 PySem.W
/-! ### the class of an exception, asked by its name -/
section
variable {M : Model} {A : Around} {E : Value → Shared → Prop} {s : Shared}
end
section
variable {prog : Program} {w : World} {A : Around} {E : Value → Shared → Prop} {s : Shared} {K : PySem.W.Frag} {x D : Addr} {ox : Obj}
end
end L3
namespace L3
open PySem PySem.Spec PyProof.Rows L2
/-! ### isinstance of an exception -/
open PySem.W in
section
variable {X : Cx}
end
/-! ### rules for a context that is not known (a block's, a handler's): the module's part is -/
section
variable {X : Cx} {K : PySem.W.Frag}
theorem ix_tupK (hK : X.K = K) : IxR X (rIxT K) := by subst hK; exact ix_tup
end
end L3

set_option Elab.async false
set_option linter.all false
set_option maxRecDepth 100000
set_option maxHeartbeats 4000000
/-! THE MATHEMATICS of texts of words, as they are cut. -/
namespace Vm
open PySem PySem.Spec PyProof.Rows L2 L3
def mkS (l : List Nat) : Str := ⟨l.toArray⟩
theorem mkS_list (l : List Nat) : (mkS l).cps.toList = l := mk_list l
/-- a cut of a list of ints -/
theorem cut_any (ns : List Int) (lo hi : Option Int) : ∃ ms : List Int, cutV (ns.map V.int) lo hi = ms.map V.int ∧ ms.length ≤ ns.length ∧ ∀ m ∈ ms, m ∈ ns := by
  unfold cutV
  refine ⟨(ns.drop (HT.sIx (ns.map V.int).length 0 lo)).take (HT.sIx (ns.map V.int).length (ns.map V.int).length hi - HT.sIx (ns.map V.int).length 0 lo), ?_, ?_, fun m hm => List.mem_of_mem_drop (List.mem_of_mem_take hm)⟩
  · rw [List.map_take, List.map_drop]
  · rw [List.length_take, List.length_drop]; omega
end Vm

set_option Elab.async false
set_option linter.all false
set_option maxRecDepth 100000
set_option maxHeartbeats 4000000
/-! NUMBERS as texts. -/
namespace L3
open PySem PySem.Spec PyProof.Rows L2
section
variable {X : Cx}
theorem call_int_text : CallR X (.type "int") (fun xs H Q => ∃ (z : Str) (n : Int), xs = [.str z] ∧ PySem.intText? z = some n ∧ z.length ≤ 640 ∧ Q (.int n) H) := by
  intro pins s σ H xs us Q I r h
  obtain ⟨z, n, rfl, hn, hl, q⟩ := h
  obtain ⟨u, rfl, t, rfl⟩ := vals1 r
  exact PySem.W.KIN.call_text hn hl ⟨.int n, H, I.tok _, ⟨_, rfl⟩, q⟩
end
end L3
namespace Vm
open PySem PySem.Spec PyProof.Rows L2 L3 PySem.NumText
def figures : Str := "0123456789"
theorem figures_cps : figures.cps.toList = (List.range 10).map (48 + ·) := by decide +kernel
theorem mem_figures {c : Nat} : c ∈ figures.cps.toList ↔ 48 ≤ c ∧ c ≤ 57 := by
  rw [figures_cps, List.mem_map]
  constructor
  · rintro ⟨i, hi, rfl⟩
    have := List.mem_range.mp hi
    omega
  · intro h
    exact ⟨c - 48, List.mem_range.mpr (by omega), by omega⟩
/-! ### what figures are worth -/
theorem fold_low : ∀ (l : List Nat) (acc : Nat), acc * 10 ^ l.length ≤ l.foldl (fun acc c => acc * 10 + (c - 48)) acc
  | [], acc => by simp
  | c :: r, acc => by
    rw [List.foldl_cons, List.length_cons]
    refine Nat.le_trans ?_ (fold_low r _)
    rw [Nat.pow_succ, Nat.mul_comm (10 ^ r.length) 10, ← Nat.mul_assoc]
    exact Nat.mul_le_mul_right _ (by omega)
theorem fold_high : ∀ (l : List Nat) (acc : Nat), (∀ c ∈ l, 48 ≤ c ∧ c ≤ 57) → l.foldl (fun acc c => acc * 10 + (c - 48)) acc < (acc + 1) * 10 ^ l.length
  | [], acc, _ => by simp
  | c :: r, acc, h => by
    rw [List.foldl_cons, List.length_cons]
    refine Nat.lt_of_lt_of_le (fold_high r _ fun d hd => h d (List.mem_cons_of_mem _ hd)) ?_
    rw [Nat.pow_succ, Nat.mul_comm (10 ^ r.length) 10, ← Nat.mul_assoc]
    have := h c List.mem_cons_self
    exact Nat.mul_le_mul_right _ (by omega)
theorem val_low {c : Nat} {r : List Nat} (h : 48 < c) : 10 ^ r.length ≤ digitsVal (c :: r) := by
  unfold digitsVal
  rw [List.foldl_cons]
  refine Nat.le_trans ?_ (fold_low r _)
  calc 10 ^ r.length = 1 * 10 ^ r.length := (Nat.one_mul _).symm
    _ ≤ _ := Nat.mul_le_mul_right _ (by omega)
theorem val_high {l : List Nat} (h : ∀ c ∈ l, 48 ≤ c ∧ c ≤ 57) : digitsVal l < 10 ^ l.length := by
  have := fold_high l 0 h
  unfold digitsVal
  omega
/-! ### the text of a number -/
def numS (n : Int) : Str := Str.ofString (toString n)
theorem numS_list (m : Nat) : (numS (m : Int)).cps.toList = (Nat.toDigits 10 m).map Char.toNat := PySem.W.KIN.signs_num m
theorem numS_digits (m : Nat) : ∀ c ∈ (numS (m : Int)).cps.toList, 48 ≤ c ∧ c ≤ 57 := by
  intro c hc
  rw [numS_list] at hc
  obtain ⟨ch, hch, e⟩ := List.mem_map.mp hc
  rw [← e]
  exact digit_range (Nat.isDigit_of_mem_toDigits (by decide) (by decide) hch)
theorem numS_lt (m : Nat) : m < 10 ^ (numS (m : Int)).length := by
  have h := val_high (numS_digits m)
  rw [numS_list, PySem.W.KIN.val_back, ← numS_list, clen] at h
  exact h
theorem digits_le : ∀ (k m : Nat), m < 10 ^ (k + 1) → (Nat.toDigits 10 m).length ≤ k + 1
  | 0, m, h => by
    rw [Nat.toDigits_of_lt_base (by omega)]
    exact Nat.le_refl _
  | k + 1, m, h => by
    by_cases h9 : m < 10
    · rw [Nat.toDigits_of_lt_base h9]
      exact Nat.succ_le_succ (Nat.zero_le _)
    · have hm : m % 10 < 10 := Nat.mod_lt m (by decide)
      have t : Nat.toDigits 10 (m / 10) ++ Nat.toDigits 10 (m % 10) = Nat.toDigits 10 (10 * (m / 10) + m % 10) := Nat.toDigits_append_toDigits (by decide) (by omega) hm
      rw [Nat.div_add_mod] at t
      rw [← t, List.length_append, Nat.toDigits_of_lt_base hm]
      have h2 : m / 10 < 10 ^ (k + 1) := by
        rw [Nat.pow_succ] at h
        exact Nat.div_lt_of_lt_mul (by omega)
      have := digits_le k (m / 10) h2
      show _ + 1 ≤ _
      omega
theorem numS_len {n : Int} (h0 : 0 ≤ n) (h1 : n < 10 ^ 40) : (numS n).length ≤ 40 := by
  obtain ⟨m, rfl⟩ := Int.eq_ofNat_of_zero_le h0
  rw [← clen, numS_list, List.length_map]
  exact digits_le 39 m (by exact_mod_cast h1)
theorem numS_pos (n : Int) (h0 : 0 ≤ n) : 1 ≤ (numS n).length := by
  obtain ⟨m, rfl⟩ := Int.eq_ofNat_of_zero_le h0
  rw [← clen, numS_list, List.length_map]
  exact toDigits_len_ge 10 m
theorem log_ok {n : Int} (h0 : 0 ≤ n) (h1 : n < 10 ^ 40) : n.natAbs.log2 < 1920 := by
  obtain ⟨m, rfl⟩ := Int.eq_ofNat_of_zero_le h0
  rw [Int.natAbs_natCast]
  by_cases hm : m = 0
  · subst hm; decide
  · rw [Nat.log2_lt hm]
    refine Nat.lt_of_lt_of_le (by exact_mod_cast h1 : m < 10 ^ 40) ?_
    refine Nat.le_trans (show 10 ^ 40 ≤ 2 ^ 160 by decide) (Nat.pow_le_pow_right (by decide) (by decide))
/-! ### texts that write a number -/
def writesB (z : Str) : Bool := if z = Str.ofString "" then false else if onlyB z figures = true then decide (z = Str.ofString "0") || !decide (z.cps.toList[0]? = some 48) else false
def pnum (z : Str) (most : Int) : Option Int := if writesB z = true then (if ((digitsVal z.cps.toList : Nat) : Int) ≤ most then some ((digitsVal z.cps.toList : Nat) : Int) else none) else none
theorem only_digits {z : Str} (h : onlyB z figures = true) : ∀ c ∈ z.cps.toList, 48 ≤ c ∧ c ≤ 57 := by
  unfold onlyB at h
  rw [List.all_eq_true] at h
  exact fun c hc => mem_figures.mp (of_decide_eq_true (h c hc))
theorem ne_nil {z : Str} (h : z ≠ Str.ofString "") : z.cps.toList ≠ [] := fun e => h (by
  have e2 : (Str.ofString "").cps.toList = [] := by decide +kernel
  rw [← str_mk z, ← str_mk (Str.ofString ""), e, e2])
theorem digits_read {z : Str} (h : onlyB z figures = true) (hne : z ≠ Str.ofString "") (hl : z.length ≤ 640) : PySem.intText? z = some ((digitsVal z.cps.toList : Nat) : Int) :=
  intText_digits (only_digits h) (ne_nil hne) (by omega)
theorem writes_low {z : Str} (h : writesB z = true) (h2 : 2 ≤ z.length) : 10 ^ (z.length - 1) ≤ digitsVal z.cps.toList := by
  unfold writesB at h
  by_cases h0 : z = Str.ofString ""
  · rw [if_pos h0] at h; cases h
  rw [if_neg h0] at h
  by_cases h1 : onlyB z figures = true
  · rw [if_pos h1] at h
    have hd := only_digits h1
    have hz := clen z
    rcases Bool.or_eq_true_iff.mp h with h | h
    · have e := of_decide_eq_true h
      rw [e] at h2
      exact absurd h2 (by decide +kernel)
    · cases hl : z.cps.toList with
      | nil => exact absurd hl (ne_nil h0)
      | cons c r =>
        rw [hl] at h hd hz
        have hc : c ≠ 48 := fun e => by rw [e] at h; simp at h
        have := hd c List.mem_cons_self
        rw [← hz, List.length_cons, Nat.add_sub_cancel]
        exact val_low (by omega)
  · rw [if_neg h1] at h; cases h
/-- a text that is longer than a greatest number's is none, or greater -/
theorem pnum_long {z : Str} {most : Int} {k : Nat} (hk : most < 10 ^ k) (h1 : 1 ≤ k) (hl : k < z.length) : pnum z most = none := by
  unfold pnum
  by_cases h : writesB z = true
  · rw [if_pos h, if_neg ?_]
    have := writes_low h (by omega)
    have h3 : 10 ^ k ≤ 10 ^ (z.length - 1) := Nat.pow_le_pow_right (by decide) (by omega)
    have h4 : (10 : Int) ^ k ≤ ((digitsVal z.cps.toList : Nat) : Int) := by exact_mod_cast Nat.le_trans h3 this
    omega
  · rw [if_neg h]
theorem most_lt {most : Int} (h0 : 0 ≤ most) : most < 10 ^ (numS most).length := by
  obtain ⟨m, rfl⟩ := Int.eq_ofNat_of_zero_le h0
  exact_mod_cast numS_lt m
def optV : Option Int → V
  | none => .non
  | some i => .int i
end Vm

set_option Elab.async false
set_option linter.all false
set_option maxRecDepth 100000
set_option maxHeartbeats 4000000
/-! TUPLES cut and laid behind lists; THE MATHEMATICS of steps. -/
namespace HT
open PySem PySem.Spec PyProof.Rows
section
variable {prog : Program} {w : World} {A : Around} {E : Value → Shared → Prop} {s : Shared}
/-- t[lo:hi], the whole: t itself -/
theorem cut_whole {t sl : Addr} {items : Array Value} {vl vu : Value} {lo hi : Option Int} {Q : Value → Shared → Prop} (ht : IsTup s.heap t items) (hs : s.heap.IsSliceOf sl vl vu .none) (pl : IsPart vl lo) (pu : IsPart vu hi)
    (hw : sIx items.size 0 lo = 0 ∧ sIx items.size items.size hi = items.size) (h : Q (.ref t) s) : wpAny (model prog w) A (getItem (.ref t) (.ref sl)) Q E s := by
  obtain ⟨os, hos, hcs, hds⟩ := id hs
  have hTs : s.TypeIs (.ref sl) "slice" := ⟨os, hos, hcs⟩
  unfold getItem
  try with_reducible refine wpAny_holding ?_
  first | refine wpAny_bind (wpAny_pure ?_) | skip
  refine wpAny_bind (wpAny_sequenceKey ht.typeIs (by decide) ?_)
  refine wpAny_bind (wpAny_callSpecial?_slot (name := Str.ofString "__getitem__") ht.typeIs PyProof.Rows.slot_tuple_getitem
    (wpAny_call_entry PyProof.Rows.slot_tuple_getitem ht.typeIs entry_tuple_getitem ?_ (args_tuple_getitem _ _)))
  show wpAny _ _ (Builtin.Tuple.tupleItemsOf (.ref t) >>= _) _ _ s
  refine wpAny_bind (tupleItemsOf_ ht ?_)
  refine wpAny_bind (wpAny_typeOf hTs ?_)
  rw [if_pos (by decide)]
  refine wpAny_bind (sliceApplied_gen hs pl pu ?_)
  have hyes : (((sIx items.size 0 lo : Nat) : Int) == 0 && (1 : Int) == 1 && (sIx items.size items.size hi - sIx items.size 0 lo) == items.size) = true := by
    rw [hw.1, hw.2]; simp
  show wpAny _ _ (if (((sIx items.size 0 lo : Nat) : Int) == 0 && (1 : Int) == 1 && (sIx items.size items.size hi - sIx items.size 0 lo) == items.size) = true then _ else _) _ _ s
  rw [if_pos hyes]
  unfold Builtin.Tuple.tupleIsExact
  refine wpAny_bind (wpAny_bind (wpAny_typeOf ht.typeIs (wpAny_pure ?_)))
  rw [if_pos (by decide)]
  first
    | exact wpAny_bind (wpAny_rule (wpAny_pure ⟨_, rfl, wpAny_pure h⟩))
    | exact wpAny_bind (wpAny_rule (wpAny_bind (wpAny_pure (wpAny_pure ⟨_, rfl, wpAny_pure h⟩))))
    | exact wpAny_bind (wpAny_bind (wpAny_rule (wpAny_pure (wpAny_pure ⟨_, rfl, wpAny_pure h⟩))))
end
end HT
namespace L3
open PySem PySem.Spec PyProof.Rows L2
section
variable {X : Cx}
def rSlTA (K : PySem.W.Frag) : V → Option Int → Option Int → Hp → VK → Prop := fun x lo hi H Q => ∃ (a : Addr) (xs : List V), x = .ref a ∧ SqT K H a xs ∧
  ((HT.sIx xs.length 0 lo = 0 ∧ HT.sIx xs.length xs.length hi = xs.length) → Q (.ref a) H) ∧ (¬ (HT.sIx xs.length 0 lo = 0 ∧ HT.sIx xs.length xs.length hi = xs.length) → ∀ p, H p = none → Q (.ref p) (upd H p (.tup (cutV xs lo hi))))
theorem sl_tupA : SlR X (rSlTA X.K) := by
  intro pins s σ H x v vl vu lo hi sl Q I rx hs pl pu h
  obtain ⟨a, xs, rfl, hx, q1, q2⟩ := h
  by_cases hw : HT.sIx xs.length 0 lo = 0 ∧ HT.sIx xs.length xs.length hi = xs.length
  · cases rx
    obtain ⟨its, r, ht, hz⟩ := I.tuple hx
    have hlen : its.toArray.size = xs.length := by rw [List.size_toArray]; exact r.length.symm
    refine ⟨"tuple", _, PyProof.Rows.slot_tuple_getitem.lookup, ht.typeIs, ?_⟩
    exact HT.cut_whole ht hs pl pu (by rw [hlen]; exact hw) ⟨.ref a, H, I, rfl, q1 hw⟩
  · exact sl_tup pins s σ H _ v vl vu lo hi sl Q I rx hs pl pu ⟨a, xs, rfl, hx, hw, q2 hw⟩
/-- list.extend(tuple) -/
theorem extend_tup (l b : Addr) (its its2 : Array Value) (n n2 : Nat) (d2 : Option Addr) (sl2 : Array (Option Value)) (h0 : ¬ (!its.isEmpty && Builtin.List.listTooLong (its.size + its2.size)) = true) (h1 : its.size ≤ sizeLine) (h2 : its.size + its2.size ≤ sizeLine + 1) :
    Meets (Builtin.«list.extend» ⟨[.ref l, .ref b], []⟩) (fun _ R s => (s.heap.get? l = some { cls := .type "list", data := .seq its n } ∧ s.heap.get? b = some ⟨.type "tuple", d2, .seq its2 n2, sl2⟩) ∧ R (.ok (.ret Value.none)) { s with heap := s.heap.update l (Obj.mapSeq fun x => x ++ its2) }) :=
  .of_wp fun prog w A R s h => by
    obtain ⟨hp, g, d, tk, os⟩ := s
    obtain ⟨⟨hl, hb⟩, h⟩ := h
    have e1 := AutoSeq1.idx_int
    have e2 := AutoSeq1.sub_tuple_tuple
    have e3 := AutoSeq1.sub_list_list
    have e4 := AutoSeq1.sub_tuple_list
    have e5 := AutoSeq1.sub_list_tuple
    have hz : (its ++ its2).size ≤ sizeLine + 1 := by rw [Array.size_append]; exact h2
    wp_walk using (wpAny_updateSeq hl rfl (hz := h1) (_hz' := hz)), AutoSeq1.wpAny_loadPart' hl, AutoSeq1.wpAny_loadPart' hb
    exact ⟨_, rfl, h⟩
def rExtT (K : PySem.W.Frag) : V → List V → Hp → VK → Prop := fun x vs H Q => ∃ (l b : Addr) (xs zs : List V), x = .ref l ∧ vs = [.ref b] ∧ H l = some (.lst xs) ∧ SqT K H b zs ∧ xs.length + zs.length ≤ sizeLine ∧ Q .non (upd H l (.lst (xs ++ zs)))
theorem mt_extendT : MtM X "list.extend" (rExtT X.K) := by
  intro pins s σ H x vs v us Q I rx rv h
  obtain ⟨l, b, xs, zs, rfl, rfl, hH, hB, hz, q⟩ := h
  cases rx
  obtain ⟨u, rfl, ru⟩ := rv.one
  cases ru
  obtain ⟨z, its, n, r, hl, e⟩ := I.lstM hH
  obtain ⟨its2, r2, ⟨o, h1, h2, n2, h3⟩, _⟩ := I.tuple hB
  obtain ⟨c, dd, dt, sl⟩ := o
  dsimp only at h2 h3
  subst h2 h3
  have l2 := r2.length
  have hsz : its.toArray.size + its2.toArray.size ≤ sizeLine := by rw [List.size_toArray, List.size_toArray]; omega
  have hlong : ¬ (!its.toArray.isEmpty && Builtin.List.listTooLong (its.toArray.size + its2.toArray.size)) = true := by
    rw [notLongL hsz, Bool.and_false]
    exact Bool.false_ne_true
  refine call_meets PySem.F.slot_list_extend ⟨_, e, rfl⟩ PySem.F.entry_list_extend (PySem.F.args_list_extend_2 _ _) (extend_tup l b its.toArray its2.toArray n n2 dd sl hlong (by rw [List.size_toArray]; omega) (by omega)) ⟨⟨e, h1⟩, ?_⟩
  refine ⟨.non, _, I.lset (its' := its ++ its2) hH e (by simp) (r.append r2) ?_, rfl, q⟩
  rw [List.length_append]
  omega
end
end L3
namespace Vm
open PySem PySem.Spec PyProof.Rows L2 L3
theorem iteK {c A B : Prop} [Decidable c] (h : ¬ c) (hb : B) : if decide c = true then A else B := by rw [decide_eq_false h]; exact hb
theorem iteY {c A B : Prop} [Decidable c] (h : c) (ha : A) : if decide c = true then A else B := by rw [decide_eq_true h]; exact ha
inductive Sk where
  | keep | lose | twice | swap | turn (w : Str) | add (w : Str) | skip (m : Nat)
def stepV : Sk → List V
  | .keep => [.str (Str.ofString "keep")]
  | .lose => [.str (Str.ofString "lose")]
  | .twice => [.str (Str.ofString "twice")]
  | .swap => [.str (Str.ofString "swap")]
  | .turn w => [.str (Str.ofString "turn"), .str w]
  | .add w => [.str (Str.ofString "add"), .str w]
  | .skip m => [.str (Str.ofString "skip"), .int (m : Nat)]
def okS : Sk → Prop
  | .skip m => 1 ≤ m ∧ m ≤ 1000
  | .turn w => Good w
  | .add w => Good w
  | _ => True
def skipB (es : List Str) (d m : Nat) : Bool := decide (1 ≤ d ∧ d + m ≤ es.length) && decide (es[d + m - 1]? = es[d - 1]?)
def fitsB (es : List Str) (d : Nat) (last : Option Str) : Sk → Bool
  | .keep => decide (d < es.length)
  | .lose => decide (d < es.length)
  | .twice => last.isSome
  | .swap => decide (d + 1 < es.length) && !decide (es[d]? = es[d + 1]?)
  | .turn w => decide (d < es.length) && !decide (es[d]? = some w)
  | .add _ => true
  | .skip m => skipB es d m
def wd : Sk → Nat
  | .add _ => 0
  | .twice => 0
  | .swap => 2
  | .skip m => m
  | _ => 1
def gt (es : List Str) (d : Nat) : Str := (es[d]?).getD (Str.ofString "")
def ww (es : List Str) (d : Nat) (last : Option Str) : Sk → List Str
  | .lose => []
  | .skip _ => []
  | .turn w => [w]
  | .add w => [w]
  | .twice => last.toList
  | .swap => [gt es (d + 1), gt es d]
  | .keep => [gt es d]
def after (es : List Str) (d : Nat) (last : Option Str) (st : Sk) : Option (Nat × List Str) := if fitsB es d last st = true then some (d + wd st, ww es d last st) else none
def optS : Option Str → V
  | none => .non
  | some z => .str z
theorem gt_of {es : List Str} {d : Nat} (h : d < es.length) : es[d]? = some (gt es d) := by
  unfold gt
  rw [List.getElem?_eq_getElem h]; rfl
theorem at_w {es : List Str} {d : Nat} (h : d < es.length) : atI (es.map V.str) (d : Int) = some (.str (gt es d)) := atI_nat (by rw [List.getElem?_map, gt_of h]; rfl)
theorem str_dec (a b : Str) : decide (V.str a = V.str b) = decide (a = b) := decide_eq_decide.mpr ⟨fun e => by injection e, fun e => by rw [e]⟩
theorem some_dec {es : List Str} {d : Nat} (h : d < es.length) (b : Str) : decide (es[d]? = some b) = decide (gt es d = b) := by
  rw [gt_of h]
  exact decide_eq_decide.mpr ⟨fun e => Option.some.inj e, fun e => by rw [e]⟩
theorem gt_mem {es : List Str} {d : Nat} (h : d < es.length) : gt es d ∈ es := List.mem_of_getElem? (gt_of h)
theorem pick {α : Type} (xs : List α) (n : Int) (m : Nat) (hm : xs.length = m) (h : 0 < m) : ∃ x ∈ xs, atI xs (n % (m : Int)) = some x := by
  have h0 : 0 ≤ n % (m : Int) := Int.emod_nonneg _ (by omega)
  have h1 : n % (m : Int) < m := Int.emod_lt_of_pos _ (by omega)
  obtain ⟨j, hj⟩ : ∃ j : Nat, n % (m : Int) = (j : Int) := ⟨(n % (m : Int)).toNat, by omega⟩
  have hl : j < xs.length := by omega
  refine ⟨xs[j], List.getElem_mem hl, ?_⟩
  rw [hj]
  exact atI_nat (List.getElem?_eq_getElem hl)
theorem atI_map {α β : Type} {g : α → β} {xs : List α} {i : Int} {x : α} (h : atI xs i = some x) : atI (xs.map g) i = some (g x) := by
  unfold atI at h ⊢
  rw [List.length_map]
  cases hix : ixN xs.length i with
  | none => rw [hix] at h; cases h
  | some j =>
    rw [hix, Option.bind_some] at h
    show (List.map g xs)[j]? = _
    rw [List.getElem?_map, h]
    rfl
end Vm

set_option Elab.async false
set_option linter.all false
set_option maxRecDepth 100000
set_option maxHeartbeats 4000000
/-! AN EXCEPTION THAT LEAVES A LOOP: what is kept of it while it passes. -/
namespace L3
open PySem PySem.Spec PyProof.Rows L2
/-- an address that nothing of the context holds -/
structure NB (X : Cx) (pins : List (Addr × Obj)) (H : Hp) (b : Addr) : Prop where
  s0 : X.s₀.heap.get? b = none
  loc : b ≠ X.env.locals
  cel : ∀ x c, X.env.cells.lookup x = some c → c ≠ b
  pin : ∀ p ∈ X.pn ++ pins, p.1 ≠ b
  hp : H b = none
section
variable {X : Cx} {pins : List (Addr × Obj)} {σ : L2.St} {H H' : Hp} {s : Shared} {b : Addr}
theorem nb_of (I : Inv X pins σ H s) (hex : X.ex = []) (hb : s.heap.get? b = none) : NB X pins H b := by
  refine ⟨old_none I hex hb, fun z => ?_, fun y c' ec z => ?_, fun q hq z => ?_, hok_none I.hok hb⟩
  · obtain ⟨m, ⟨o, _, _, ho, _⟩, _⟩ := I.loc
    rw [← z, hb] at ho; cases ho
  · obtain ⟨v, o, ho, _⟩ := I.cell y c' ec
    rw [z, hb] at ho; cases ho
  · have := (I.pin q hq).1
    rw [z, hb] at this; cases this
theorem NB.to (n : NB X pins H b) (h : H' b = none) : NB X pins H' b := ⟨n.s0, n.loc, n.cel, n.pin, h⟩
theorem inv_nb {h' : Heap} {t' : Nat} {S : List Addr} (I : Inv X pins σ H s) (k : Kpt S (frs X.stack) s.heap h') (n : ∀ b ∈ S, NB X pins H b) : Inv X pins σ H { s with heap := h', toks := t' } :=
  inv_kpt I k (fun b hb => (n b hb).s0) (fun b hb => (n b hb).loc) (fun b hb => (n b hb).cel) (fun b hb => (n b hb).pin) fun b hb => (n b hb).hp
end
/-- the exception e stands noted in this frame -/
def FlyN (X : Cx) (E : XK) (e : Value) (s : Shared) : Prop := ∃ (pins : List (Addr × Obj)) (σ : L2.St) (H : Hp) (ea T C : Addr), e = .ref ea ∧ Inv X pins σ H s ∧ NB X pins H ea ∧ NB X pins H T ∧ E (.ref C) none H ∧ Exc s.heap ea T C (rawInt X.env.locals)
/-- the exception e is in flight: just raised here, or come from a callee, or noted -/
def Fly (X : Cx) (E : XK) (e : Value) (s : Shared) : Prop := ∃ (pins : List (Addr × Obj)) (σ : L2.St) (H : Hp) (ea C : Addr), e = .ref ea ∧ Inv X pins σ H s ∧ NB X pins H ea ∧ E (.ref C) none H ∧
  ((∃ vs, s.heap.get? ea = some { cls := .ref C, data := .fields vs } ∧ vs[1]? = some .none) ∨ ∃ (T : Addr) (fl : Value), Exc s.heap ea T C fl ∧ NB X pins H T ∧ (fl = .none ∨ fl = rawInt X.env.locals))
section
variable {X : Cx} {E : XK} {e : Value} {s : Shared}
theorem note_same {M : Model} {A : Around} {E' : Value → Shared → Prop} {env : Env} {L ea T C : Addr} {Q : Unit → Shared → Prop} (hf : env.frame = some L) (x : Exc s.heap ea T C (rawInt L)) (h : Q () s) : wpAny M A (noteFrame (.ref ea) env) Q E' s := by
  obtain ⟨⟨vs, he, h1⟩, ⟨oT, ts, hT, dT, h3⟩, ne⟩ := x
  unfold noteFrame
  simp only [hf]
  refine wpAny_bind (wpAny_field he rfl h1 ?_)
  rw [if_pos (show (Value.ref T != Value.none) = true by simp)]
  refine wpAny_bind (wpAny_field hT dT h3 ?_)
  rw [if_pos (beq_self_eq_true _)]
  exact wpAny_pure h
theorem fly_note {M : Model} {E' : Value → Shared → Prop} {Q : Unit → Shared → Prop} (hst : X.stack = X.env :: X.outer ∧ X.env.frame = some X.env.locals) (hex : X.ex = []) (F : Fly X E e s) (hQ : ∀ s', FlyN X E e s' → Q () s') : wpAny M X.A (noteFrame e X.env) Q E' s := by
  obtain ⟨pins, σ, H, ea, C, rfl, I, n1, hE, hx⟩ := F
  have fr := I.ok.frames
  have stk := I.stack
  rw [hst.1] at fr stk
  rcases hx with ⟨vs, ho, h1⟩ | ⟨T0, fl, x, n2, hfl⟩
  · refine note_new (base := X.base) (outer := X.outer) fr stk hst.2 ho h1 fun k1 T hT x1 kp1 => hQ _ ?_
    have nT := nb_of I hex (size_none hT)
    have kp : Kpt [ea] (frs X.stack) s.heap k1 := by rw [hst.1]; exact kp1
    exact ⟨pins, σ, H, ea, T, C, rfl, inv_nb (t' := s.toks) I kp (fun b hb => by rw [List.mem_singleton.mp hb]; exact n1), n1, nT, hE, x1⟩
  · rcases hfl with rfl | rfl
    · refine note_on (base := X.base) (outer := X.outer) fr stk hst.2 x fun k1 T hT x1 kp1 => hQ _ ?_
      have nT := nb_of I hex (size_none hT)
      have kp : Kpt [ea, T0] (frs X.stack) s.heap k1 := by rw [hst.1]; exact kp1
      exact ⟨pins, σ, H, ea, T, C, rfl, inv_nb (t' := s.toks) I kp (fun b hb => by
        rcases List.mem_cons.mp hb with z | z
        · rw [z]; exact n1
        · rw [List.mem_singleton.mp z]; exact n2), n1, nT, hE, x1⟩
    · exact note_same hst.2 x (hQ s ⟨pins, σ, H, ea, T0, C, rfl, I, n1, n2, hE, x⟩)
/-- the flight is set -/
theorem fly_set {M : Model} {A : Around} {E' : Value → Shared → Prop} {to : Option Addr} {Q : Unit → Shared → Prop} (F : FlyN X E e s)
    (hQ : ∀ s' pins σ H ea T C, e = .ref ea → Inv X pins σ H s' → NB X pins H ea → NB X pins H T → E (.ref C) none H → Exc s'.heap ea T C (to.elim Value.none fun f => rawInt f) → Q () s') : wpAny M A (setFlight e to) Q E' s := by
  obtain ⟨pins, σ, H, ea, T, C, rfl, I, n1, n2, hE, x⟩ := F
  refine flight_set (to := to) x fun k2 x2 oth _ => hQ _ pins σ H ea T C rfl ?_ n1 n2 hE x2
  refine inv_nb (t' := s.toks) (S := [T]) I ⟨fun b o eb nb _ => (oth b fun z => nb (by rw [z]; simp)).trans eb, fun b o eb nb _ => ⟨o.slots, (oth b fun z => nb (by rw [z]; simp)).trans eb⟩⟩ fun b hb => by
    rw [List.mem_singleton.mp hb]; exact n2
theorem passes_fly (hst : X.stack = X.env :: X.outer ∧ X.env.frame = some X.env.locals) (hex : X.ex = []) : PassesOwn (model X.prog X.w) X.A X.env (Fly X E) := fun e s' F => by
  show wpAny _ X.A (noteFrame e X.env) _ _ s'
  refine fly_note hst hex F fun s'' N => ?_
  have N' := N
  obtain ⟨pins, σ, H, ea, T, C, rfl, I, n1, n2, hE, ⟨vs, he, h1⟩, _⟩ := N'
  unfold cameBackBy
  refine wpAny_bind (wpAny_field he rfl h1 ?_)
  rw [if_neg (show ¬ (Value.ref T == Value.none) = true by simp)]
  first
    | refine fly_set (to := X.env.frame) N fun s3 pins σ H ea T C e1 I3 m1 m2 hE3 x3 => ?_
    | refine wpAny_bind (wpAny_pure (fly_set (to := X.env.frame) N fun s3 pins σ H ea T C e1 I3 m1 m2 hE3 x3 => ?_))
  rw [hst.2] at x3
  exact ⟨pins, σ, H, ea, C, e1, I3, m1, hE3, .inr ⟨T, _, x3, m2, .inr rfl⟩⟩
theorem lands_fly (hex : X.ex = []) : Lands (X.wish (Fly X E)) E := by
  intro pins σ H s h' ea C vs I kp new ho h1 hE
  have I0 := I.unwish
  exact ⟨pins, σ, H, ea, C, rfl, I0.kept (t' := s.toks) kp, nb_of I0 hex new, hE, .inl ⟨vs, ho, h1⟩⟩
end
section
variable {P : Program} {w : World} {K : PySem.W.Frag} {mg : Str → Option Value} {base : Heap} {N : List Str} {qual : Str} {scope : Scope} {f : Addr} {cd : Value} {A : Around} {outer : List Env} {s0 : Shared} {H0 : Hp} {E : XK}
abbrev cxF (P : Program) (w : World) (K : PySem.W.Frag) (mg : Str → Option Value) (base : Heap) (N : List Str) (qual : Str) (scope : Scope) (f : Addr) (cd : Value) (A : Around) (outer : List Env) (s0 : Shared) (H0 : Hp) (E : XK) : Cx :=
  (cxOf (CXv P w) P w K mg base N qual scope f cd A outer s0 H0 E).wish (Fly (cxOf (CXv P w) P w K mg base N qual scope f cd A outer s0 H0 E) E)
theorem passesF : Passes (CXv P w) (cxF P w K mg base N qual scope f cd A outer s0 H0 E) E := by
  intro pins σ H s e s' I hx
  obtain ⟨ea, T0, C, H', rfl, x, n1, n2, t1, t2, os, bare, un, hok, hE⟩ := hx
  have I0 := I.unwish
  have I' : Inv (cxOf (CXv P w) P w K mg base N qual scope f cd A outer s0 H0 E) pins σ H' s' := I0.call' os un hok bare fun b z => absurd z (by simp)
  exact ⟨pins, σ, H', ea, C, rfl, I', (nb_of I0 rfl n1).to t1, hE, .inr ⟨T0, .none, x, (nb_of I0 rfl n2).to t2, .inl rfl⟩⟩
theorem fly_leave {e : Value} {s : Shared} (F : Fly (cxOf (CXv P w) P w K mg base N qual scope f cd A outer s0 H0 E) E e s) : (cxOf (CXv P w) P w K mg base N qual scope f cd A outer s0 H0 E).xe e s := by
  show wpAny (model P w) (A.deeper (envOfC qual scope s0.heap.objs.size f cd)) (leaving (envOfC qual scope s0.heap.objs.size f cd) e) _ _ s
  unfold leaving
  refine wpAny_bind (fly_note ⟨rfl, rfl⟩ rfl F fun s'' Nn => ?_)
  refine fly_set (to := none) Nn fun s3 pins σ H ea T C e1 I3 m1 m2 hE3 x3 => ?_
  exact ⟨ea, T, C, H, e1, x3, m1.s0, m2.s0, m1.hp, m2.hp, I3.os, I3.bare, I3.base, I3.hok, hE3⟩
theorem PSs.fly {sts : List Stmt} {t : TS} (h : PSs (cxF P w K mg base N qual scope f cd A outer s0 H0 E) sts t) : PSs (cxOf (CXv P w) P w K mg base N qual scope f cd A outer s0 H0 E) sts t := fun pins s σ H D I hw =>
  wpAny_mono (h pins s σ H D (I.wish _) hw) (fun _ _ q => q.unwish) fun _ _ z => fly_leave z
theorem passF : PassesOwn (model P w) (cxF P w K mg base N qual scope f cd A outer s0 H0 E).A (cxF P w K mg base N qual scope f cd A outer s0 H0 E).env (cxF P w K mg base N qual scope f cd A outer s0 H0 E).xe := passes_fly (X := cxOf (CXv P w) P w K mg base N qual scope f cd A outer s0 H0 E) ⟨rfl, rfl⟩ rfl
theorem landsF : Lands (cxF P w K mg base N qual scope f cd A outer s0 H0 E) E := lands_fly rfl
end
end L3

set_option Elab.async false
set_option linter.all false
set_option maxRecDepth 100000
set_option maxHeartbeats 4000000
/-! try .. except C: (without a name); THE MATHEMATICS of rows of steps. -/
namespace L3
open PySem PySem.Spec PyProof.Rows L2
section
variable {X : Cx} {k : Nat} {f : Addr} {fd : FuncData} {ps : List Str} {sp : Sp} {fx x c : Str} {e : Expr} {es : List Expr} {ta : TA} {p pos : Pos}
end
end L3
namespace Vm
open PySem PySem.Spec PyProof.Rows L2 L3
/-! ### rows of steps -/
abbrev WS := Nat × List Str × List Nat
def walk1 (es : List Str) (x : WS) (st : Sk) : Option WS := (after es x.1 x.2.1.getLast? st).map fun y => (y.1, x.2.1 ++ y.2, x.2.2 ++ [x.1])
def walk (es : List Str) : List Sk → WS → Option WS
  | [], x => some x
  | st :: r, x => (walk1 es x st).bind (walk es r)
theorem walk_append (es : List Str) : ∀ (a b : List Sk) (x : WS), walk es (a ++ b) x = (walk es a x).bind (walk es b)
  | [], b, x => rfl
  | st :: a, b, x => by
    show (walk1 es x st).bind (walk es (a ++ b)) = ((walk1 es x st).bind (walk es a)).bind (walk es b)
    cases walk1 es x st with
    | none => rfl
    | some y => exact walk_append es a b y
theorem walk_one (es : List Str) (st : Sk) (x : WS) : walk es [st] x = walk1 es x st := by
  show (walk1 es x st).bind (walk es []) = _
  cases walk1 es x st <;> rfl
def made (es : List Str) (sts : List Sk) : Option (List Str × List Nat) := (walk es sts (0, [], [])).bind fun x => if x.1 < es.length ∨ 40 < x.2.1.length then none else some (x.2.1, x.2.2)
theorem after_le {es : List Str} {d : Nat} {last : Option Str} {st : Sk} {y : Nat × List Str} (h : after es d last st = some y) (hd : d ≤ es.length) : y.1 ≤ es.length := by
  unfold after at h
  split at h
  · rename_i hf
    cases h
    show d + wd st ≤ es.length
    cases st with
    | keep => have := of_decide_eq_true hf; show d + 1 ≤ _; omega
    | lose => have := of_decide_eq_true hf; show d + 1 ≤ _; omega
    | twice => exact hd
    | add _ => exact hd
    | swap => have := of_decide_eq_true (Bool.and_eq_true_iff.mp hf).1; show d + 2 ≤ _; omega
    | turn _ => have := of_decide_eq_true (Bool.and_eq_true_iff.mp hf).1; show d + 1 ≤ _; omega
    | skip m =>
      have h2 : (decide (1 ≤ d ∧ d + m ≤ es.length) && decide (es[d + m - 1]? = es[d - 1]?)) = true := hf
      have := of_decide_eq_true (Bool.and_eq_true_iff.mp h2).1
      exact this.2
  · cases h
theorem ww_len (es : List Str) (d : Nat) (last : Option Str) (st : Sk) : (ww es d last st).length ≤ 2 := by
  cases st with
  | twice => cases last <;> simp [ww]
  | _ => simp [ww]
theorem after_len {es : List Str} {d : Nat} {last : Option Str} {st : Sk} {y : Nat × List Str} (h : after es d last st = some y) : y.2.length ≤ 2 := by
  unfold after at h
  split at h
  · cases h; exact ww_len es d last st
  · cases h
/-- a turn of the walk -/
theorem walk_turn {es : List Str} {sts : List Sk} {i : Nat} {st : Sk} {d : Nat} {cp : List Str} {pl : List Nat} (hi : sts[i]? = some st) (hw : walk es (sts.take i) (0, [], []) = some (d, cp, pl)) :
    walk es (sts.take (i + 1)) (0, [], []) = (after es d cp.getLast? st).map fun y => (y.1, cp ++ y.2, pl ++ [d]) := by
  have hl := (List.getElem?_eq_some_iff.mp hi).1
  rw [List.take_succ_eq_append_getElem hl, (List.getElem?_eq_some_iff.mp hi).2, walk_append, hw]
  exact walk_one es st _
theorem walk_stop {es : List Str} {sts : List Sk} {i : Nat} (h : walk es (sts.take i) (0, [], []) = none) : made es sts = none := by
  unfold made
  have e : sts = sts.take i ++ sts.drop i := (List.take_append_drop i sts).symm
  rw [e, walk_append, h]
  rfl
/-- the steps' tuples -/
structure StepsAt (K : PySem.W.Frag) (H : Hp) (ts : List Addr) (sts : List Sk) : Prop where
  len : ts.length = sts.length
  item : ∀ (i : Nat) (t : Addr) (st : Sk), ts[i]? = some t → sts[i]? = some st → SqT K H t (stepV st) ∧ okS st
theorem sameT {K : PySem.W.Frag} {H H' : Hp} {a : Addr} {xs : List V} (S : Same H H') (h : SqT K H a xs) : SqT K H' a xs := by
  rcases h with (h | ⟨o, h⟩) | h
  · exact .inl (.inl (S _ _ h))
  · exact .inl (.inr ⟨o, S _ _ h⟩)
  · exact .inr h
theorem StepsAt.mono {K : PySem.W.Frag} {H H' : Hp} {ts : List Addr} {sts : List Sk} (S : Same H H') (h : StepsAt K H ts sts) : StepsAt K H' ts sts :=
  ⟨h.len, fun i t st e1 e2 => ⟨sameT S (h.item i t st e1 e2).1, (h.item i t st e1 e2).2⟩⟩
theorem StepsAt.nil {K : PySem.W.Frag} {H : Hp} : StepsAt K H [] [] := ⟨rfl, fun i t st e _ => by simp at e⟩
theorem StepsAt.snoc {K : PySem.W.Frag} {H : Hp} {ts : List Addr} {sts : List Sk} {t : Addr} {st : Sk} (h : StepsAt K H ts sts) (ht : SqT K H t (stepV st)) (ho : okS st) : StepsAt K H (ts ++ [t]) (sts ++ [st]) := by
  refine ⟨by rw [List.length_append, List.length_append, h.len]; rfl, fun i t' st' e1 e2 => ?_⟩
  by_cases hi : i < ts.length
  · rw [List.getElem?_append_left hi] at e1
    rw [List.getElem?_append_left (by rw [← h.len]; exact hi)] at e2
    exact h.item i t' st' e1 e2
  · rw [List.getElem?_append_right (by omega)] at e1
    rw [List.getElem?_append_right (by rw [← h.len]; omega), ← h.len] at e2
    by_cases h0 : i - ts.length = 0
    · rw [h0] at e1 e2
      cases e1; cases e2
      exact ⟨ht, ho⟩
    · obtain ⟨j, hj⟩ : ∃ j, i - ts.length = j + 1 := ⟨i - ts.length - 1, by omega⟩
      rw [hj] at e1
      simp at e1
theorem StepsAt.rep {K : PySem.W.Frag} {H : Hp} {t : Addr} {st : Sk} (ht : SqT K H t (stepV st)) (ho : okS st) : ∀ (n : Nat) {ts : List Addr} {sts : List Sk}, StepsAt K H ts sts → StepsAt K H (ts ++ List.replicate n t) (sts ++ List.replicate n st)
  | 0, ts, sts, h => by rw [List.replicate_zero, List.replicate_zero, List.append_nil, List.append_nil]; exact h
  | n + 1, ts, sts, h => by
    have := StepsAt.rep ht ho n (h.snoc ht ho)
    rw [List.append_assoc, List.append_assoc] at this
    exact this
theorem ref_at {ts : List Addr} {i : Nat} {y : V} (hi : (ts.map V.ref)[i]? = some y) : ∃ t, ts[i]? = some t ∧ y = .ref t := by
  rw [List.getElem?_map] at hi
  cases e : ts[i]? with
  | none => rw [e] at hi; cases hi
  | some t => rw [e] at hi; exact ⟨t, rfl, (Option.some.inj hi).symm⟩
theorem last_at {cp : List Str} (h : 0 < cp.length) : ∃ l, cp.getLast? = some l ∧ atI (cp.map V.str) (-1) = some (.str l) := by
  obtain ⟨r, z, rfl⟩ : ∃ r z, cp = r ++ [z] := ⟨cp.dropLast, cp.getLast (by intro e; rw [e] at h; exact absurd h (by decide)), (List.dropLast_concat_getLast _).symm⟩
  refine ⟨z, by simp, ?_⟩
  rw [List.map_append]
  exact atI_last _ _
end Vm

set_option Elab.async false
set_option linter.all false
set_option maxRecDepth 100000
set_option maxHeartbeats 4000000
/-! zip of two tuples, walked; sum of ints; a text's place in a list; a dict of the module. -/
namespace L3
open PySem PySem.Spec PyProof.Rows L2
section
variable {prog : Program} {w : World}
/-- an iterator as zip draws from it -/
structure Cursor (prog : Program) (w : World) (it t : Addr) (xs : Array Value) (St : Nat → Heap → Prop) : Prop where
  stay : ∀ i (h h' : Heap), St i h → (∀ o, h.get? it = some o → h'.get? it = some o) → (∀ o, h.get? t = some o → h'.get? t = some o) → St i h'
  draw : ∀ (A : Around) (E : Value → Shared → Prop) (s : Shared) (Q : Value → Shared → Prop) (i : Nat) (x : Value), St i s.heap → xs[i]? = some x → (∀ h', St (i + 1) h' → Heap.SameBut it s.heap h' → Q x { s with heap := h' }) → wpAny (model prog w) A (Builtin.SmallTypes.nextOf (.ref it)) Q E s
  over : ∀ (A : Around) (E : Value → Shared → Prop) (s : Shared) (Q : Value → Shared → Prop) (i : Nat), A.handled = none → St i s.heap → xs[i]? = none →
    (∀ h' e, Heap.ExtBut it s.heap h' → (∃ o, h'.get? e = some o ∧ o.cls = .type "StopIteration") → E (.ref e) { s with heap := h' }) → wpAny (model prog w) A (Builtin.SmallTypes.nextOf (.ref it)) Q E s
  lt : ∀ i h, St i h → ∃ o, h.get? it = some o ∧ ∀ v, o.data ≠ .cell v
theorem cursor_tuple (it t : Addr) (xs : Array Value) (hne : t ≠ it) : Cursor prog w it t xs (fun i h => h.IsTupleIter it t i ∧ h.IsTuple t xs) where
  stay := fun i h h' st k1 k2 => ⟨st.1.at k1, by obtain ⟨o, e, r⟩ := st.2; exact ⟨o, k2 o e, r⟩⟩
  lt := fun i h st => by obtain ⟨o, e, _, d⟩ := st.1; exact ⟨o, e, fun v z => by rw [d] at z; cases z⟩
  draw := by
    intro A E s Q i x st hx hQ
    obtain ⟨hit, ht⟩ := st
    obtain ⟨o, ho, hc, hd⟩ := id hit
    obtain ⟨ot, hot, ct, nt, dt⟩ := id ht
    unfold Builtin.SmallTypes.nextOf
    refine wpAny_bind (wpAny_callSpecial?_slot (name := Str.ofString "__next__") hit.typeIs PySem.F.slot_tuple_iterator_next (wpAny_call_entry PySem.F.slot_tuple_iterator_next hit.typeIs PySem.F.entry_tuple_iterator_next ?_ (PySem.F.args_tuple_iterator_next_1 _)))
    refine (show wpAny _ _ (field (.ref it) 0 >>= _) _ _ s from wpAny_bind (wpAny_field ho hd (x := .ref t) rfl ?_))
    refine (show wpAny _ _ (if (Value.ref t == Value.none) = true then _ else _) _ _ s from ?_); rw [if_neg (show ¬ ((Value.ref t == Value.none) = true) by simp)]
    refine (show wpAny _ _ (field (.ref it) 1 >>= _) _ _ s from wpAny_bind (wpAny_field ho hd (x := .int i 0) rfl ?_))
    refine (show wpAny _ _ (seqItems? (.ref t) >>= _) _ _ s from wpAny_bind (wpAny_seqItems hot dt ?_)); simp only [Int.toNat_natCast, hx]
    refine wpAny_bind (wpAny_setField ho hd (by simp) (wpAny_pure ⟨x, rfl, wpAny_pure (hQ _ ⟨?_, ?_⟩ (Heap.SameBut.update ..))⟩))
    · refine ⟨_, Heap.get?_update_self _ ho (Obj.isFreed_of_fields (Obj.data_mapFields hd _)), (Obj.cls_mapFields ..).trans hc, ?_⟩; rw [Obj.data_mapFields hd]; simp [rawInt]
    · exact ⟨ot, (Heap.get?_update_other _ _ (Ne.symm hne)).trans hot, ct, nt, dt⟩
  over := by
    intro A E s Q i hh st hx hE
    obtain ⟨hit, ht⟩ := st
    obtain ⟨o, ho, hc, hd⟩ := id hit
    obtain ⟨ot, hot, ct, nt, dt⟩ := id ht
    unfold Builtin.SmallTypes.nextOf
    refine wpAny_bind (wpAny_callSpecial?_slot (name := Str.ofString "__next__") hit.typeIs PySem.F.slot_tuple_iterator_next (wpAny_call_entry PySem.F.slot_tuple_iterator_next hit.typeIs PySem.F.entry_tuple_iterator_next ?_ (PySem.F.args_tuple_iterator_next_1 _)))
    refine (show wpAny _ _ (field (.ref it) 0 >>= _) _ _ s from wpAny_bind (wpAny_field ho hd (x := .ref t) rfl ?_))
    refine (show wpAny _ _ (if (Value.ref t == Value.none) = true then _ else _) _ _ s from ?_); rw [if_neg (show ¬ ((Value.ref t == Value.none) = true) by simp)]
    refine (show wpAny _ _ (field (.ref it) 1 >>= _) _ _ s from wpAny_bind (wpAny_field ho hd (x := .int i 0) rfl ?_))
    refine (show wpAny _ _ (seqItems? (.ref t) >>= _) _ _ s from wpAny_bind (wpAny_seqItems hot dt ?_)); simp only [Int.toNat_natCast, hx]
    refine wpAny_bind (wpAny_rule (wpAny_bind (wpAny_setField ho hd (by simp) (wpAny_bind ?_)))); simp only [newExc, newTuple]
    refine wpAny_bind (wpAny_newObj_type ?_ (by size_fits)); refine wpAny_bind (m := firstArgMember _ _) (wpAny_of_eq (a := Value.none) (by first | rfl | (simp only [firstArgMember]; rfl)) ?_)
    refine wpAny_newObj_type ?_ (by size_fits); simp only [raiseNew]; refine wpAny_bind (wpAny_handled ?_)
    first | rw [show A.in1.handled = none from hh] | rw [hh]
    exact wpAny_bind (wpAny_pure (wpAny_throw (hE _ _ (((Heap.SameBut.update ..).extBut.push _).push _) ⟨_, Heap.get?_push_size _ rfl, rfl⟩)))
/-- the zip's own objects and the two sources are apart -/
structure Apart (z TI TO i1 i2 t1 t2 : Addr) : Prop where
  a1 : TI ≠ z
  a2 : TO ≠ z
  a3 : i1 ≠ z
  a4 : i2 ≠ z
  a5 : TI ≠ TO
  a6 : TI ≠ i1
  a7 : TI ≠ i2
  a8 : TO ≠ i1
  a9 : TO ≠ i2
  b1 : i1 ≠ i2
  b2 : t1 ≠ z
  b3 : t1 ≠ TO
  b4 : t1 ≠ i1
  b5 : t1 ≠ i2
  b6 : t2 ≠ z
  b7 : t2 ≠ TO
  b8 : t2 ≠ i1
  b9 : t2 ≠ i2
section
variable {A : Around} {E : Value → Shared → Prop} {s : Shared} {z TI TO i1 i2 t1 t2 : Addr} {xs ys : Array Value} {S1 S2 : Nat → Heap → Prop} {k : Nat}
theorem cur_to {it t c : Addr} {us : Array Value} {S : Nat → Heap → Prop} {i : Nat} {h h' : Heap} (C : Cursor prog w it t us S) (st : S i h) (e : Heap.SameBut c h h') (n1 : it ≠ c) (n2 : t ≠ c) : S i h' :=
  C.stay i h h' st (fun o q => e.extBut _ _ n1 q) (fun o q => e.extBut _ _ n2 q)
theorem zip_draw {x y a b : Value} {Q : Value → Shared → Prop} (D : Apart z TI TO i1 i2 t1 t2) (C1 : Cursor prog w i1 t1 xs S1) (C2 : Cursor prog w i2 t2 ys S2)
    (hz : IsZip s.heap z TI TO .none) (hTI : IsPair s.heap TI (.ref i1) (.ref i2)) (hTO : IsPair s.heap TO a b) (h1 : S1 k s.heap) (h2 : S2 k s.heap) (hx : xs[k]? = some x) (hy : ys[k]? = some y)
    (hQ : ∀ h', IsZip h' z TI TO (rawInt s.heap.objs.size) → IsPair h' TO x y → S1 (k + 1) h' → S2 (k + 1) h' → IsPair h' s.heap.objs.size x y → (∀ c o, c ≠ z → c ≠ TO → c ≠ i1 → c ≠ i2 → s.heap.get? c = some o → h'.get? c = some o) → Q (.ref s.heap.objs.size) { s with heap := h' }) :
    wpAny (model prog w) A (Builtin.«zip.__next__» ⟨[.ref z], []⟩) (fun fin s' => ∃ v, fin = .done (.ret v) ∧ Q v s') E s := by
  refine (show wpAny _ _ (field (.ref z) 2 >>= _) _ _ _ from wpAny_bind (wpAny_field hz rfl (x := .bool false) rfl ?_))
  refine (show wpAny _ _ (field (.ref z) 3 >>= _) _ _ _ from wpAny_bind (wpAny_field hz rfl (x := .ref TI) rfl (wpAny_bind (wpAny_seqItems hTI rfl ?_))))
  refine (show wpAny _ _ (Builtin.SmallTypes.ownedTupleIsFree (.ref z) >>= _) _ _ _ from wpAny_bind ?_); unfold Builtin.SmallTypes.ownedTupleIsFree
  refine wpAny_bind (wpAny_field hz rfl (x := .none) rfl (wpAny_pure ?_)); simp only [if_true]
  refine wpAny_bind (wpAny_rule (wpAny_bind (wpAny_field hz rfl (x := .ref TO) rfl (wpAny_bind (wpAny_setField_rec hz (by simp) fun g1 q1 e1 => ?_)))))
  replace q1 : IsZip g1 z TI TO .ellipsis := q1
  refine wpAny_bind ?_; simp only [List.zipIdx_cons, List.zipIdx_nil, List.forIn_cons, List.forIn_nil]
  -- the first
  refine wpAny_bind (wpAny_bind (wpAny_onRaise ?_)); refine (show wpAny _ _ (Builtin.SmallTypes.nextOf (.ref i1) >>= _) _ _ _ from wpAny_bind (C1.draw _ _ _ _ k x (cur_to C1 h1 e1 D.a3 D.b2) hx fun g2 c1 e2 => wpAny_pure ?_))
  have p2 : IsPair g2 TO a b := e2.extBut _ _ D.a8 (e1.extBut _ _ D.a2 hTO)
  refine wpAny_bind (wpAny_seqItems p2 rfl (wpAny_bind (wpAny_updateSeq_pair p2 fun g3 p3 e3 => wpAny_bind (wpAny_letGo (wpAny_pure ?_))))); replace p3 : IsPair g3 TO x b := p3
  -- the second
  have d2 : S2 k g3 := cur_to C2 (cur_to C2 (cur_to C2 h2 e1 D.a4 D.b6) e2 D.b1.symm D.b8) e3 D.a9.symm D.b7
  refine wpAny_bind (wpAny_bind (wpAny_onRaise ?_)); refine (show wpAny _ _ (Builtin.SmallTypes.nextOf (.ref i2) >>= _) _ _ _ from wpAny_bind (C2.draw _ _ _ _ k y d2 hy fun g4 c2 e4 => wpAny_pure ?_))
  have p4 : IsPair g4 TO x b := e4.extBut _ _ D.a9 p3
  refine wpAny_bind (wpAny_seqItems p4 rfl (wpAny_bind (wpAny_updateSeq_pair p4 fun g5 p5 e5 => wpAny_bind (wpAny_letGo (wpAny_pure (wpAny_pure ?_)))))); replace p5 : IsPair g5 TO x y := p5
  -- what is handed out
  refine wpAny_bind (wpAny_seqItems p5 rfl (wpAny_bind (wpAny_newTuple ?_)))
  have sz : g5.objs.size = s.heap.objs.size := by rw [e5.1, e4.1, e3.1, e2.1, e1.1]
  have q5 : IsZip g5 z TI TO .ellipsis := e5.extBut _ _ D.a2.symm (e4.extBut _ _ D.a4.symm (e3.extBut _ _ D.a2.symm (e2.extBut _ _ D.a3.symm q1)))
  have kp : ∀ c o, c ≠ z → c ≠ TO → c ≠ i1 → c ≠ i2 → s.heap.get? c = some o → g5.get? c = some o := fun c o n1 n2 n3 n4 q => e5.extBut _ _ n2 (e4.extBut _ _ n4 (e3.extBut _ _ n2 (e2.extBut _ _ n3 (e1.extBut _ _ n1 q))))
  have d1 : S1 (k + 1) g5 := cur_to C1 (cur_to C1 (cur_to C1 c1 e3 D.a8.symm D.b3) e4 D.b1 D.b5) e5 D.a8.symm D.b3
  have d3 : S2 (k + 1) g5 := cur_to C2 c2 e5 D.a9.symm D.b7
  refine (show wpAny _ _ (Builtin.SmallTypes.ownedTupleHandOut (.ref z) (.ref g5.objs.size) >>= _) _ _ _ from wpAny_bind ?_); unfold Builtin.SmallTypes.ownedTupleHandOut
  have q6 : IsZip (g5.push { cls := .type "tuple", data := .seq #[x, y] }) z TI TO .ellipsis := Heap.get?_push_of_some _ q5
  refine wpAny_bind (wpAny_setField_rec q6 (by simp) fun g7 q7 e7 => ?_); replace q7 : IsZip g7 z TI TO (rawInt g5.objs.size) := q7
  refine wpAny_setField_rec q7 (by simp) fun g8 q8 e8 => ?_; replace q8 : IsZip g8 z TI TO (rawInt g5.objs.size) := q8
  have up : ∀ c o, c ≠ z → g5.get? c = some o → g8.get? c = some o := fun c o n q => e8.extBut _ _ n (e7.extBut _ _ n (Heap.get?_push_of_some _ q))
  have zl : z < g5.objs.size := Heap.lt_size q5
  have p8 : IsPair g8 g5.objs.size x y := e8.extBut _ _ (Nat.ne_of_gt zl) (e7.extBut _ _ (Nat.ne_of_gt zl) (Heap.get?_push_size _ rfl))
  rw [sz] at q8 p8
  refine wpAny_pure ⟨_, rfl, ?_⟩
  refine (show Q (.ref g5.objs.size) _ from ?_); rw [sz]
  exact hQ g8 q8 (up _ _ D.a2 p5) (C1.stay _ _ _ d1 (fun o q => up _ o D.a3 q) (fun o q => up _ o D.b2 q)) (C2.stay _ _ _ d3 (fun o q => up _ o D.a4 q) (fun o q => up _ o D.b6 q)) p8 fun c o n1 n2 n3 n4 q => up c o n1 (kp c o n1 n2 n3 n4 q)
theorem zip_over {a b : Value} {Q : Fin → Shared → Prop} (hh : A.handled = none) (D : Apart z TI TO i1 i2 t1 t2) (C1 : Cursor prog w i1 t1 xs S1) (C2 : Cursor prog w i2 t2 ys S2)
    (hz : IsZip s.heap z TI TO .none) (hTI : IsPair s.heap TI (.ref i1) (.ref i2)) (hTO : IsPair s.heap TO a b) (h1 : S1 k s.heap) (h2 : S2 k s.heap) (hend : xs[k]? = none ∨ ys[k]? = none)
    (hE : ∀ h' e, (∀ c o, c ≠ z → c ≠ TO → c ≠ i1 → c ≠ i2 → s.heap.get? c = some o → h'.get? c = some o) → (∃ o, h'.get? e = some o ∧ o.cls = .type "StopIteration") → E (.ref e) { s with heap := h' }) :
    wpAny (model prog w) A (Builtin.«zip.__next__» ⟨[.ref z], []⟩) Q E s := by
  refine (show wpAny _ _ (field (.ref z) 2 >>= _) _ _ _ from wpAny_bind (wpAny_field hz rfl (x := .bool false) rfl ?_))
  refine (show wpAny _ _ (field (.ref z) 3 >>= _) _ _ _ from wpAny_bind (wpAny_field hz rfl (x := .ref TI) rfl (wpAny_bind (wpAny_seqItems hTI rfl ?_))))
  refine (show wpAny _ _ (Builtin.SmallTypes.ownedTupleIsFree (.ref z) >>= _) _ _ _ from wpAny_bind ?_); unfold Builtin.SmallTypes.ownedTupleIsFree
  refine wpAny_bind (wpAny_field hz rfl (x := .none) rfl (wpAny_pure ?_)); simp only [if_true]
  refine wpAny_bind (wpAny_rule (wpAny_bind (wpAny_field hz rfl (x := .ref TO) rfl (wpAny_bind (wpAny_setField_rec hz (by simp) fun g1 q1 e1 => ?_)))))
  replace q1 : IsZip g1 z TI TO .ellipsis := q1
  refine wpAny_bind ?_; simp only [List.zipIdx_cons, List.zipIdx_nil, List.forIn_cons, List.forIn_nil]
  refine wpAny_bind (wpAny_bind (wpAny_onRaise ?_)); refine (show wpAny _ _ (Builtin.SmallTypes.nextOf (.ref i1) >>= _) _ _ _ from ?_)
  cases hx : xs[k]? with
  | none =>
    refine wpAny_bind (C1.over _ _ _ _ k hh (cur_to C1 h1 e1 D.a3 D.b2) hx fun g2 e e2 he => ?_)
    obtain ⟨oe, h3, h4⟩ := he
    have q2 : IsZip g2 z TI TO .ellipsis := e2 _ _ D.a3.symm q1
    have ne : e ≠ z := fun u => by subst u; rw [q2] at h3; cases h3; simp at h4
    exact wpAny_setField_rec q2 (by simp) fun g3 _ e3 => hE g3 e (fun c o n1 _ n3 _ q => e3.extBut _ _ n1 (e2 _ _ n3 (e1.extBut _ _ n1 q))) ⟨oe, e3.extBut _ _ ne h3, h4⟩
  | some x =>
    have hy : ys[k]? = none := by rcases hend with u | u; rw [hx] at u; cases u; exact u
    refine wpAny_bind (C1.draw _ _ _ _ k x (cur_to C1 h1 e1 D.a3 D.b2) hx fun g2 c1 e2 => wpAny_pure ?_)
    have p2 : IsPair g2 TO a b := e2.extBut _ _ D.a8 (e1.extBut _ _ D.a2 hTO)
    refine wpAny_bind (wpAny_seqItems p2 rfl (wpAny_bind (wpAny_updateSeq_pair p2 fun g3 p3 e3 => wpAny_bind (wpAny_letGo (wpAny_pure ?_)))))
    have d2 : S2 k g3 := cur_to C2 (cur_to C2 (cur_to C2 h2 e1 D.a4 D.b6) e2 D.b1.symm D.b8) e3 D.a9.symm D.b7
    refine wpAny_bind (wpAny_bind (wpAny_onRaise ?_)); refine (show wpAny _ _ (Builtin.SmallTypes.nextOf (.ref i2) >>= _) _ _ _ from wpAny_bind (C2.over _ _ _ _ k hh d2 hy fun g4 e e4 he => ?_))
    obtain ⟨oe, h3, h4⟩ := he
    have q4 : IsZip g4 z TI TO .ellipsis := e4 _ _ D.a4.symm (e3.extBut _ _ D.a2.symm (e2.extBut _ _ D.a3.symm q1))
    have ne : e ≠ z := fun u => by subst u; rw [q4] at h3; cases h3; simp at h4
    exact wpAny_setField_rec q4 (by simp) fun g5 _ e5 => hE g5 e (fun c o n1 n2 n3 n4 q => e5.extBut _ _ n1 (e4 _ _ n4 (e3.extBut _ _ n2 (e2.extBut _ _ n3 (e1.extBut _ _ n1 q))))) ⟨oe, e5.extBut _ _ ne h3, h4⟩
end
end
end L3
namespace L3
open PySem PySem.Spec PyProof.Rows L2
section
variable {X : Cx} {pins : List (Addr × Obj)} {σ : L2.St} {H : Hp} {s : Shared} {h' : Heap}
/-- untracked records of ours have turned -/
theorem turnedL {t' : Nat} {L : List Addr} (I : Inv X pins σ H s) (k : ∀ b o, b ∉ L → s.heap.get? b = some o → h'.get? b = some o) (hf : ∀ b ∈ L, FpOk X pins H b) : Inv X pins σ H { s with heap := h', toks := t' } := by
  have nit : ∀ b u, H b = some u → b ∉ L := fun b u e z => by rw [(hf b z).1] at e; cases e
  have nl : X.env.locals ∉ L := fun z => (hf _ z).2.1 rfl
  refine I.step (g' := s.gens) (d' := s.drawn) (ch := L) (fun b hb => ?_) (fun b o _ _ hc e _ => k b o hc e) (fun b o _ _ hc e _ => ⟨o.slots, k b o hc e⟩) (fun _ _ _ _ n => n)
    (fun b o hc e => ⟨o, k b o hc e⟩) (fun _ _ e => e) (fun _ _ _ e => e) (fun b ps e => ⟨#[], by rw [e]; simp⟩) (fun m hm => ?_) (fun b u e => ?_) I.bare
  · obtain ⟨f0, f1, f2, f3, f4, f5⟩ := hf b hb
    exact ⟨f3, f1, f4, f5⟩
  · obtain ⟨o, es, ep, ho, r⟩ := hm
    exact ⟨o, es, ep, k _ o nl ho, r⟩
  · refine (I.hok b u e).stay (fun c v hc q => k c v ?_ q) (fun _ q => q) fun _ _ q => q
    rcases hc with z | z
    · rw [z]; exact nit b u e
    · exact nit c _ z
end
section
variable {prog : Program} {w : World} {A : Around} {E : Value → Shared → Prop} {s : Shared} {z TI TO i1 i2 t1 t2 : Addr} {xs ys : Array Value} {k : Nat}
abbrev TS1 (i1 t1 : Addr) (xs : Array Value) : Nat → Heap → Prop := fun i h => h.IsTupleIter i1 t1 i ∧ h.IsTuple t1 xs
theorem zipT_next {x y a b : Value} {Q : Option Value → Shared → Prop} (D : Apart z TI TO i1 i2 t1 t2) (hz : IsZip s.heap z TI TO .none) (hTI : IsPair s.heap TI (.ref i1) (.ref i2)) (hTO : IsPair s.heap TO a b)
    (h1 : TS1 i1 t1 xs k s.heap) (h2 : TS1 i2 t2 ys k s.heap) (hx : xs[k]? = some x) (hy : ys[k]? = some y)
    (hQ : ∀ h', IsZip h' z TI TO (rawInt s.heap.objs.size) → IsPair h' TO x y → TS1 i1 t1 xs (k + 1) h' → TS1 i2 t2 ys (k + 1) h' → IsPair h' s.heap.objs.size x y → (∀ c o, c ≠ z → c ≠ TO → c ≠ i1 → c ≠ i2 → s.heap.get? c = some o → h'.get? c = some o) → Q (some (.ref s.heap.objs.size)) { s with heap := h' }) :
    wpAny (model prog w) A (pyNext (.ref z)) Q E s := by
  have ty : s.TypeIs (.ref z) "zip" := ⟨_, hz, rfl⟩
  unfold pyNext
  exact wpAny_bind (wpAny_attempt (wpAny_callSpecial?_slot (name := Str.ofString "__next__") ty PySem.F.slot_zip_next (wpAny_call_entry PySem.F.slot_zip_next ty PySem.F.entry_zip_next
    (zip_draw D (cursor_tuple i1 t1 xs D.b4) (cursor_tuple i2 t2 ys D.b9) hz hTI hTO h1 h2 hx hy fun h' q1 q2 q3 q4 q5 q6 => wpAny_pure (hQ h' q1 q2 q3 q4 q5 q6)) (PySem.F.args_zip_next_1 _))))
theorem zipT_end {a b : Value} {Q : Option Value → Shared → Prop} (hh : A.handled = none) (D : Apart z TI TO i1 i2 t1 t2) (hz : IsZip s.heap z TI TO .none) (hTI : IsPair s.heap TI (.ref i1) (.ref i2)) (hTO : IsPair s.heap TO a b)
    (h1 : TS1 i1 t1 xs k s.heap) (h2 : TS1 i2 t2 ys k s.heap) (hend : xs[k]? = none ∨ ys[k]? = none)
    (hQ : ∀ h', (∀ c o, c ≠ z → c ≠ TO → c ≠ i1 → c ≠ i2 → s.heap.get? c = some o → h'.get? c = some o) → Q none { s with heap := h' }) : wpAny (model prog w) A (pyNext (.ref z)) Q E s := by
  have ty : s.TypeIs (.ref z) "zip" := ⟨_, hz, rfl⟩
  unfold pyNext
  refine wpAny_bind (wpAny_attempt (wpAny_callSpecial?_slot (name := Str.ofString "__next__") ty PySem.F.slot_zip_next (wpAny_call_entry PySem.F.slot_zip_next ty PySem.F.entry_zip_next
    (zip_over hh D (cursor_tuple i1 t1 xs D.b4) (cursor_tuple i2 t2 ys D.b9) hz hTI hTO h1 h2 hend fun h' e kp he => ?_) (PySem.F.args_zip_next_1 _))))
  obtain ⟨o, ho, hc⟩ := he
  exact wpAny_bind (wpAny_isInstance (T := "StopIteration") (b := true) ⟨o, ho, hc⟩ isSubtype_stop (wpAny_pure (hQ _ kp)))
abbrev zT1 (h : Heap) (a : Addr) : Heap := h.push { cls := .type "tuple_iterator", data := .fields #[.ref a, .int 0 0] }
abbrev zT3 (h : Heap) (a b : Addr) : Heap := (zT1 (zT1 h a) b).push { cls := .type "tuple", data := .seq #[.ref h.objs.size, .ref (zT1 h a).objs.size] }
abbrev zT4 (h : Heap) (a b : Addr) : Heap := (zT3 h a b).push { cls := .type "tuple", data := .seq #[.none, .none] }
abbrev zT5 (h : Heap) (a b : Addr) : Heap := (zT4 h a b).push { cls := .type "zip", data := .fields #[.none, .bool false, .bool false, .ref (zT1 (zT1 h a) b).objs.size, .ref (zT3 h a b).objs.size] }
theorem tup_push {h : Heap} {a : Addr} {us : Array Value} (o : Obj) (t : h.IsTuple a us) : (h.push o).IsTuple a us := by
  obtain ⟨p, e, r⟩ := t
  exact ⟨p, Heap.get?_push_of_some _ e, r⟩
theorem meets_zipT (a b : Addr) (xs ys : Array Value) :
    Meets (Builtin.«zip.__new__» ⟨[.type "zip", .ref a, .ref b], []⟩) (fun _ R s => (s.heap.IsTuple a xs ∧ s.heap.IsTuple b ys) ∧ R (.ok (.ret (.ref (zT4 s.heap a b).objs.size))) { s with heap := zT5 s.heap a b }) :=
  .of_wp fun prog w A R s h => by
    obtain ⟨hp, g, d, tk, os⟩ := s
    obtain ⟨⟨e1, e2⟩, h⟩ := h
    have sub := sub_zip
    have f1 : Heap.IsTuple (Shared.heap ⟨hp, g, d, tk, os⟩) a xs := e1
    have f2 : Heap.IsTuple (Shared.heap ⟨zT1 hp a, g, d, tk, os⟩) b ys := tup_push _ e2
    wp_walk using wpAny_pyIter_tuple f1, wpAny_pyIter_tuple f2
    exact ⟨_, rfl, h⟩
theorem call_zipT {a b : Addr} {Q : Value → Shared → Prop} (e1 : s.heap.IsTuple a xs) (e2 : s.heap.IsTuple b ys)
    (h : ∀ h', IsZip h' (s.heap.objs.size + 4) (s.heap.objs.size + 2) (s.heap.objs.size + 3) .none → IsPair h' (s.heap.objs.size + 2) (.ref s.heap.objs.size) (.ref (s.heap.objs.size + 1)) → IsPair h' (s.heap.objs.size + 3) .none .none →
      h'.IsTupleIter s.heap.objs.size a 0 → h'.IsTupleIter (s.heap.objs.size + 1) b 0 → (∀ c o, s.heap.get? c = some o → h'.get? c = some o) → Q (.ref (s.heap.objs.size + 4)) { s with heap := h' }) :
    wpAny (model prog w) A (call (.type "zip") [.ref a, .ref b]) Q E s := by
  refine callType_new PySem.F.called_zip (by decide) (PySem.F.typeCall_zip_2 _ _) (PySem.F.newCall_zip_2 _ _) (fun obj => PySem.F.args_object_init_3 obj _ _) PySem.F.entry_zip_new (meets_zipT a b xs ys) ⟨⟨e1, e2⟩, ?_⟩
  have n1 : (zT1 s.heap a).objs.size = s.heap.objs.size + 1 := Heap.size_push ..
  have n2 : (zT1 (zT1 s.heap a) b).objs.size = s.heap.objs.size + 2 := by rw [Heap.size_push, n1]
  have n3 : (zT3 s.heap a b).objs.size = s.heap.objs.size + 3 := by rw [Heap.size_push, n2]
  have n4 : (zT4 s.heap a b).objs.size = s.heap.objs.size + 4 := by rw [Heap.size_push, n3]
  have m5 : (zT5 s.heap a b).get? (zT4 s.heap a b).objs.size = some _ := Heap.get?_push_size _ rfl
  have m4 : (zT5 s.heap a b).get? (zT3 s.heap a b).objs.size = some _ := Heap.get?_push_of_some _ (Heap.get?_push_size _ rfl)
  have m3 : (zT5 s.heap a b).get? (zT1 (zT1 s.heap a) b).objs.size = some _ := Heap.get?_push_of_some _ (Heap.get?_push_of_some _ (Heap.get?_push_size _ rfl))
  have m2 : (zT5 s.heap a b).get? (zT1 s.heap a).objs.size = some _ := Heap.get?_push_of_some _ (Heap.get?_push_of_some _ (Heap.get?_push_of_some _ (Heap.get?_push_size _ rfl)))
  have m1 : (zT5 s.heap a b).get? s.heap.objs.size = some _ := Heap.get?_push_of_some _ (Heap.get?_push_of_some _ (Heap.get?_push_of_some _ (Heap.get?_push_of_some _ (Heap.get?_push_size _ rfl))))
  refine (show _ ∧ _ from ?_)
  rw [n2, n3, n4] at m5
  rw [n1, n2] at m3
  rw [n3] at m4
  rw [n1] at m2
  rw [n4]
  exact ⟨⟨_, m5, rfl⟩, h _ m5 m3 m4 ⟨_, m1, rfl, rfl⟩ ⟨_, m2, rfl, rfl⟩ fun c o x => Heap.get?_push_of_some _ (Heap.get?_push_of_some _ (Heap.get?_push_of_some _ (Heap.get?_push_of_some _ (Heap.get?_push_of_some _ x))))⟩
end
/-- pairs of two tuples' items -/
def Itz (K : PySem.W.Frag) (t1 t2 : Addr) : It := ⟨fun i H => ∃ xs ys a b, SqT K H t1 xs ∧ SqT K H t2 ys ∧ xs[i]? = some a ∧ ys[i]? = some b,
  fun i H x H' => ∃ T a b, x = .ref T ∧ H T = none ∧ H' = upd H T (.tup [a, b]) ∧ ∀ xs ys, SqT K H t1 xs → SqT K H t2 ys → xs[i]? = some a ∧ ys[i]? = some b,
  fun i H => ∃ xs ys, SqT K H t1 xs ∧ SqT K H t2 ys ∧ (xs.length ≤ i ∨ ys.length ≤ i)⟩
theorem turn_zip {P : Program} {w : World} {K : PySem.W.Frag} {es : List Expr} {x1 : Nat} {tpos : Pos} {z TI TO i1 i2 t1 t2 : Addr} (D : Apart z TI TO i1 i2 t1 t2) :
    Turn P w K (.Tuple es x1 tpos) (Itz K t1 t2) [z, TI, TO, i1, i2] z (fun i h => IsZip h z TI TO .none ∧ IsPair h TI (.ref i1) (.ref i2) ∧ (∃ a b, IsPair h TO a b) ∧ h.IsTupleIter i1 t1 i ∧ h.IsTupleIter i2 t2 i) where
  mem := by simp
  obj := fun i h st b hb => by
    obtain ⟨q1, q2, ⟨a, c, q3⟩, ⟨o1, e1, _, d1⟩, ⟨o2, e2, _, d2⟩⟩ := st
    simp only [List.mem_cons, List.not_mem_nil, or_false] at hb
    rcases hb with rfl | rfl | rfl | rfl | rfl
    · exact ⟨_, q1, fun v u => nomatch u⟩
    · exact ⟨_, q2, fun v u => nomatch u⟩
    · exact ⟨_, q3, fun v u => nomatch u⟩
    · exact ⟨_, e1, fun v u => by rw [d1] at u; cases u⟩
    · exact ⟨_, e2, fun v u => by rw [d2] at u; cases u⟩
  keep := fun i h h' st kp => by
    obtain ⟨q1, q2, ⟨a, c, q3⟩, q4, q5⟩ := st
    exact ⟨kp z (by simp) _ q1, kp TI (by simp) _ q2, ⟨a, c, kp TO (by simp) _ q3⟩, q4.at fun o e => kp i1 (by simp) o e, q5.at fun o e => kp i2 (by simp) o e⟩
  item := by
    intro X hP hw hK hc i pins s σ H E I hf st hg
    subst hP hw hK
    obtain ⟨q1, q2, ⟨a0, c0, q3⟩, q4, q5⟩ := st
    obtain ⟨xs, ys, a, b, hx, hy, ex, ey⟩ := hg
    obtain ⟨us, ru, pu, zu⟩ := I.tuple hx
    obtain ⟨vs, rv, pv', zv⟩ := I.tuple hy
    obtain ⟨u, eu, ra⟩ := ru.get ex
    obtain ⟨v, ev, rb⟩ := rv.get ey
    refine zipT_next D q1 q2 q3 ⟨q4, pu⟩ ⟨q5, pv'⟩ (x := u) (y := v) (by simpa using eu) (by simpa using ev) fun h' g1 g2 g3 g4 g5 kp => ⟨_, rfl, ?_⟩
    refine wpAny_letOwnedTupleGo_zip (s := { s with heap := h' }) g1 fun h2 hz2 sb => ?_
    have lt : ∀ {c o}, s.heap.get? c = some o → s.heap.objs.size ≠ c := fun e => Nat.ne_of_gt (Heap.lt_size e)
    have kp2 : ∀ c o, c ∉ [z, TI, TO, i1, i2] → s.heap.get? c = some o → h2.get? c = some o := fun c o n e => by
      simp only [List.mem_cons, List.not_mem_nil, or_false, not_or] at n
      exact sb.extBut _ _ n.1 (kp c o n.1 n.2.2.1 n.2.2.2.1 n.2.2.2.2 e)
    have I1 : Inv X pins σ H { s with heap := h2 } := turnedL (t' := s.toks) I kp2 hf
    have T2 : IsPair h2 s.heap.objs.size u v := sb.extBut _ _ (lt q1) g5
    have sN : s.heap.get? s.heap.objs.size = none := Heap.get?_none_of_le (Nat.le_refl _)
    have hN : H s.heap.objs.size = none := I.hok.fresh (Nat.le_refl _)
    have I2 : Inv X pins σ (upd H s.heap.objs.size (.tup [a, b])) { s with heap := h2 } := inv_track I1 (Heap.get?_none_of_le I.sz) (Nat.ne_of_gt I.lt)
      (fun y c ec => by obtain ⟨_, o, ho, _⟩ := I.cell y c ec; exact Ne.symm (lt ho)) (fun p hp => Ne.symm (lt (I.pin p hp).1)) hN
      ⟨few (by show 2 ≤ _; omega), [u, v], .cons ra (.cons rb .nil), ⟨_, T2, rfl, 0, rfl⟩⟩
    refine ⟨.ref s.heap.objs.size, _, I2, rfl, ⟨_, a, b, rfl, hN, rfl, fun xs' ys' hx' hy' => ?_⟩, ⟨hz2, ?_, ?_, ?_, ?_⟩, fun c hc => ?_⟩
    · rw [I.tuple_inj hx' hx, I.tuple_inj hy' hy]; exact ⟨ex, ey⟩
    · exact sb.extBut _ _ D.a1 (kp _ _ D.a1 D.a5 D.a6 D.a7 q2)
    · exact ⟨_, _, sb.extBut _ _ D.a2 g2⟩
    · exact g3.1.extBut sb.extBut D.a3
    · exact g4.1.extBut sb.extBut D.a4
    · have ne : c ≠ s.heap.objs.size := by
        simp only [List.mem_cons, List.not_mem_nil, or_false] at hc
        obtain ⟨o1, e1, _⟩ := q4
        obtain ⟨o2, e2, _⟩ := q5
        rcases hc with rfl | rfl | rfl | rfl | rfl
        · exact Ne.symm (lt q1)
        · exact Ne.symm (lt q2)
        · exact Ne.symm (lt q3)
        · exact Ne.symm (lt e1)
        · exact Ne.symm (lt e2)
      rw [upd_ne ne]; exact (hf c hc).1
  done := by
    intro X hP hw hK hc i pins s σ H E I hf st hg
    subst hP hw hK
    obtain ⟨q1, q2, ⟨a0, c0, q3⟩, q4, q5⟩ := st
    obtain ⟨xs, ys, hx, hy, he⟩ := hg
    obtain ⟨us, ru, pu, zu⟩ := I.tuple hx
    obtain ⟨vs, rv, pv', zv⟩ := I.tuple hy
    have l1 := ru.length
    have l2 := rv.length
    refine zipT_end (I.ok.hd hc) D q1 q2 q3 ⟨q4, pu⟩ ⟨q5, pv'⟩ ?_ fun h' kp => ⟨rfl, turnedL (t' := s.toks) I (fun c o n e => ?_) hf⟩
    · rcases he with he | he
      · exact .inl (by simp; omega)
      · exact .inr (by simp; omega)
    · simp only [List.mem_cons, List.not_mem_nil, or_false, not_or] at n
      exact kp c o n.1 n.2.2.1 n.2.2.2.1 n.2.2.2.2 e
  self := fun _ _ _ _ _ st h => wpAny_pyIter_zip st.1 h
theorem apart_mk {n t1 t2 : Nat} (h1 : t1 < n) (h2 : t2 < n) : Apart (n + 4) (n + 2) (n + 3) n (n + 1) t1 t2 :=
  { a1 := (by omega : (n + 2 : Nat) ≠ n + 4), a2 := (by omega : (n + 3 : Nat) ≠ n + 4), a3 := (by omega : (n : Nat) ≠ n + 4), a4 := (by omega : (n + 1 : Nat) ≠ n + 4), a5 := (by omega : (n + 2 : Nat) ≠ n + 3)
    a6 := (by omega : (n + 2 : Nat) ≠ n), a7 := (by omega : (n + 2 : Nat) ≠ n + 1), a8 := (by omega : (n + 3 : Nat) ≠ n), a9 := (by omega : (n + 3 : Nat) ≠ n + 1), b1 := (by omega : (n : Nat) ≠ n + 1)
    b2 := (by omega : (t1 : Nat) ≠ n + 4), b3 := (by omega : (t1 : Nat) ≠ n + 3), b4 := (by omega : (t1 : Nat) ≠ n), b5 := (by omega : (t1 : Nat) ≠ n + 1)
    b6 := (by omega : (t2 : Nat) ≠ n + 4), b7 := (by omega : (t2 : Nat) ≠ n + 3), b8 := (by omega : (t2 : Nat) ≠ n), b9 := (by omega : (t2 : Nat) ≠ n + 1) }
section
variable {X : Cx} {es : List Expr} {x1 : Nat} {tpos : Pos}
def iZip (K : PySem.W.Frag) (ta : TA) : TI := fun σ H R => ta σ H fun vs H1 => ∃ t1 t2 : Addr, vs = [.ref t1, .ref t2] ∧ (∃ xs, SqT K H1 t1 xs) ∧ (∃ ys, SqT K H1 t2 ys) ∧ R (Itz K t1 t2) H1
theorem pi_zip {a b : Expr} {ta : TA} {p pos : Pos} (hg : Gl X "zip") (hm : X.mg "zip" = none) (ha : PA X [a, b] ta) (hs : starEach [a, b] X.env = [(false, eval a X.env), (false, eval b X.env)] := by rfl) (hs2 : starEach [b] X.env = [(false, eval b X.env)] := by rfl) :
    PI X (.Tuple es x1 tpos) (.Call (.Name "zip" p) [a, b] [] pos) (iZip X.K ta) := by
  intro pins s σ H R I h
  refine Call_ (ld_blt I hg hm PyProof.Rows.boot_zip (PyProof.Rows.callWith_type1 (thn (ha pos pins s σ H _ I h) fun us s1 ⟨vs, H1, I1, r1, q1⟩ => ?_) (by rw [hs, hs2]) (by rw [hs2]; rfl)))
  obtain ⟨t1, t2, e, ⟨xs, hx⟩, ⟨ys, hy⟩, q⟩ := q1
  subst e
  obtain ⟨u1, u2, rfl, r1', r2'⟩ := r1.two
  cases r1'; cases r2'
  obtain ⟨us, ru, pu, zu⟩ := I1.tuple hx
  obtain ⟨vs, rv, pv', zv⟩ := I1.tuple hy
  refine call_zipT pu pv' fun h' g1 g2 g3 g4 g5 kp => ?_
  refine wpAny_pyIter_zip (s := { s1 with heap := h' }) g1 ?_
  have lt1 : t1 < s1.heap.objs.size := by obtain ⟨_, e, _⟩ := pu; exact Heap.lt_size e
  have lt2 : t2 < s1.heap.objs.size := by obtain ⟨_, e, _⟩ := pv'; exact Heap.lt_size e
  have D : Apart (s1.heap.objs.size + 4) (s1.heap.objs.size + 2) (s1.heap.objs.size + 3) s1.heap.objs.size (s1.heap.objs.size + 1) t1 t2 := apart_mk lt1 lt2
  refine ⟨_, _, _, Itz X.K t1 t2, H1, rfl, I1.kept (t' := s1.toks) kp, turn_zip D, ⟨g1, g2, ⟨_, _, g3⟩, g4, g5⟩, fun b hb => ?_, q⟩
  have hb' : s1.heap.objs.size ≤ b := by
    simp only [List.mem_cons, List.not_mem_nil, or_false] at hb
    rcases hb with rfl | rfl | rfl | rfl | rfl
    · exact Nat.le_add_right _ _
    · exact Nat.le_add_right _ _
    · exact Nat.le_add_right _ _
    · exact Nat.le_refl _
    · exact Nat.le_add_right _ _
  exact I1.fpOk hb' (I1.hok.fresh hb')
/-! ### sum, list.index, a dict of the module -/
theorem call_sum (hc : X.calm = true) : CallR X (.builtin "sum") (fun xs H Q => ∃ (p : Addr) (ns : List Int), xs = [.ref p] ∧ SqL X.K H p (ns.map V.int) ∧ Q (.int ns.sum) H) := by
  intro pins s σ H xs us Q I r h
  obtain ⟨p, ns, rfl, hq, q⟩ := h
  obtain ⟨u, rfl, ru⟩ := r.one
  cases ru
  obtain ⟨its, rv, hp, hz⟩ := I.list hq
  have hlt : p < s.heap.objs.size := by obtain ⟨_, e, _⟩ := hp.isList; exact Heap.lt_size e
  have el : its.toArray.size = ns.length := by rw [List.size_toArray, ← rv.length, List.length_map]
  refine call_sum_walkG (wpAny_pyIter_list hp.isList ?_)
  refine ⟨s.heap.objs.size, [s.heap.objs.size, p], [s.heap.objs.size], its.toArray.size, _, _, fun i => ns.getD i 0, rfl, Walks.list (A := X.A.in1) (I.ok.hd hc) _ _ (Nat.ne_of_lt hlt) its.toArray, ⟨⟨_, Heap.get?_push_size _ rfl, rfl, rfl⟩, hp.isList.push _⟩, ?_, ?_, ?_⟩
  · intro b hb
    simp only [List.mem_cons, List.not_mem_nil, or_false] at hb
    rw [Heap.size_push]
    rcases hb with rfl | rfl
    · exact Nat.lt_succ_self _
    · exact Nat.lt_succ_of_lt hlt
  · intro i v hv
    have hv' : its[i]? = some v := by simpa using hv
    have hi : i < ns.length := by
      have := (List.getElem?_eq_some_iff.mp hv').1
      rw [← el, List.size_toArray]; exact this
    obtain ⟨u, hu, ru⟩ := rv.get (i := i) (x := V.int ns[i]) (by rw [List.getElem?_map, List.getElem?_eq_getElem hi]; rfl)
    rw [hv'] at hu; cases hu
    obtain ⟨t, rfl⟩ := ru
    exact ⟨t, by show Value.int ns[i] t = Value.int (ns.getD i 0) t; rw [List.getD_eq_getElem?_getD, List.getElem?_eq_getElem hi]; rfl⟩
  · intro h' tk t' hk
    rw [el, preSum_getD, List.take_length]
    exact ⟨.int _, H, I.kept fun b o e => hk b o (fun z => absurd (Heap.lt_size e) (by rw [List.mem_singleton.mp z]; exact Nat.lt_irrefl _)) (Heap.get?_push_of_some _ e), ⟨_, rfl⟩, q⟩
/-- list.index of a text in a list of texts -/
def rIxOf : V → List V → Hp → VK → Prop := fun x vs H Q => ∃ (l : Addr) (ws : List Str) (z : Str) (j : Nat), x = .ref l ∧ vs = [.str z] ∧ H l = some (.lst (ws.map V.str)) ∧ ws[j]? = some z ∧ (∀ m, m < j → ws[m]? ≠ some z) ∧ ws.length ≤ 1000 ∧ Q (.int (j : Nat)) H
theorem mt_indexL : MtM X "list.index" rIxOf := by
  intro pins s σ H x vs v us Q I rx rv h
  obtain ⟨l, ws, z, j, rfl, rfl, hH, hj, hno, hw, q⟩ := h
  cases rx
  obtain ⟨u, rfl, ru⟩ := rv.one
  obtain ⟨t, rfl⟩ := ru
  obtain ⟨zz, its, n, r, hl, e⟩ := I.lstM hH
  have hjl : j < ws.length := (List.getElem?_eq_some_iff.mp hj).1
  have hits : its.length = ws.length := by rw [← hl, List.length_map]
  have at' : ∀ m (hm : m < its.length), ∃ (y : Str) (ty : Tok), its[m] = .str y ty ∧ ws[m]? = some y := fun m hm => by
    have hm' : m < ws.length := by omega
    obtain ⟨u, eu, ru⟩ := r.get (i := m) (x := V.str ws[m]) (by rw [List.getElem?_map, List.getElem?_eq_getElem hm']; rfl)
    rw [List.getElem?_eq_getElem hm] at eu
    cases eu
    obtain ⟨ty, ety⟩ := ru
    exact ⟨ws[m], ty, ety, List.getElem?_eq_getElem hm'⟩
  have flat : (ws.map V.str).all flatV = true := by rw [List.all_map, List.all_eq_true]; exact fun _ _ => rfl
  refine call_meets PySem.F.slot_list_index ⟨_, e, rfl⟩ PySem.F.entry_list_index (PySem.F.args_list_index_2 _ _)
    (SeqAt.list_indexAt l its.toArray n none #[] (.str z t) (eqU (.str z)) j (by rw [List.size_toArray]; omega) (by omega) ?_ ?_) ⟨e, fun y hy => mem_eqAt (x := .str z) (v := .str z t) ⟨t, rfl⟩ rfl r flat y (by simpa using hy), ⟨.int _, H, I.tok _, ⟨_, rfl⟩, q⟩⟩
  · obtain ⟨y, ty, e1, e2⟩ := at' j (by omega)
    rw [List.getElem_toArray, e1]
    rw [hj] at e2
    cases e2
    show (z == z) = true
    simp
  · intro m hm hmj
    rw [List.size_toArray] at hm
    obtain ⟨y, ty, e1, e2⟩ := at' m hm
    rw [List.getElem_toArray, e1]
    show (y == z) = false
    have : y ≠ z := fun q => hno m hmj (by rw [e2, q])
    simp [this]
theorem ix_dictM {K : PySem.W.Frag} (hK : X.K = K) {a : Addr} {es : Array DictEntry} {n : Nat} (hl : K.lookup a = some ⟨.type "dict", none, .dict es n, #[]⟩) (hk : PySem.W.KeysLit X.w.params es.toList) :
    IxR X (fun x y H Q => ∃ (z : Str) (v : V) (u : Value), x = .ref a ∧ y = .str z ∧ PySem.W.nsIn K a z = some (some u) ∧ RelV v u ∧ Q v H) := by
  subst hK
  intro value slice pins s σ H x y v u Q I rx ry h hs
  obtain ⟨z, v', u', rfl, rfl, e, rv, q⟩ := h
  cases rx
  obtain ⟨t, rfl⟩ := ry
  have hm := PySem.W.mapOf_K (prog := X.prog) I.kIn hl hk
  exact tail_any hm.typeIs PySem.F.slot_dict_getitem.lookup (wpAny_getItem_of (strKind_is X.prog X.w z t) hm (PySem.W.find_K hl e) ⟨v', H, I.tok _, rv, q⟩) hs
end
end L3

set_option Elab.async false
set_option linter.all false
set_option maxRecDepth 100000
set_option maxHeartbeats 4000000
/-! ITEMS with a comma and a blank between; slips as texts. -/
namespace L3
open PySem PySem.Spec PyProof.Rows L2
section
variable {X : Cx}
theorem passE {P : Program} {w : World} {X : Cx} : Passes (CXv P w) X E0 := fun _ _ _ _ _ _ _ h => by
  obtain ⟨_, _, _, _, _, _, _, _, _, _, _, _, _, _, hE⟩ := h
  exact False.elim hE
theorem call_str_any : CallR X (.type "str") (fun xs H Q => (∃ i, xs = [.int i] ∧ i.natAbs.log2 < 1920 ∧ Q (.str (toString i)) H) ∨ ∃ z, xs = [.str z] ∧ Q (.str z) H) := by
  intro pins s σ H xs us Q I r h
  rcases h with ⟨i, rfl, hz, q⟩ | ⟨z, rfl, q⟩
  · obtain ⟨u, rfl, t, rfl⟩ := vals1 r
    exact PySem.P.str_of_int hz ⟨.str _, H, I.tok _, ⟨_, rfl⟩, q⟩
  · obtain ⟨u, rfl, t, rfl⟩ := vals1 r
    exact PySem.P.str_of_str ⟨.str _, H, I, ⟨_, rfl⟩, q⟩
end
def eqL : List V → List V → Bool
  | [], [] => true
  | x :: xs, y :: ys => eqV x y && eqL xs ys
  | _, _ => false
theorem eqL_eq : ∀ xs ys : List V, (decide (xs.length = ys.length) && (List.range xs.length).all fun i => eqV (xs.getD i .non) (ys.getD i .non)) = eqL xs ys
  | [], [] => rfl
  | [], y :: ys => by simp [eqL]
  | x :: xs, [] => by simp [eqL]
  | x :: xs, y :: ys => by
    have ih := eqL_eq xs ys
    rw [List.length_cons, List.length_cons, List.range_succ_eq_map, List.all_cons, List.all_map]
    have e : decide (xs.length + 1 = ys.length + 1) = decide (xs.length = ys.length) := decide_eq_decide.mpr (by omega)
    rw [e]
    show (decide (xs.length = ys.length) && (eqV x y && (List.range xs.length).all fun i => eqV (xs.getD i .non) (ys.getD i .non))) = (eqV x y && eqL xs ys)
    rw [← ih]
    exact Bool.and_left_comm _ _ _
theorem EqS.flats {K : PySem.W.Frag} {H : Hp} {p r : Addr} {xs ys : List V} (h : (SqL K H p xs ∧ SqL K H r ys) ∨ (SqT K H p xs ∧ SqT K H r ys)) (hx : xs.all flatV = true) (hy : ys.all flatV = true) : EqS K H 0 (.ref p) (.ref r) (eqL xs ys) := by
  refine ⟨p, r, xs, ys, fun i => eqV (xs.getD i .non) (ys.getD i .non), rfl, rfl, h, fun i x y ex ey => ?_, (eqL_eq xs ys).symm⟩
  refine ⟨List.all_eq_true.mp hx x (List.mem_of_getElem? ex), List.all_eq_true.mp hy y (List.mem_of_getElem? ey), ?_⟩
  show eqV (xs[i]?.getD .non) (ys[i]?.getD .non) = _
  rw [ex, ey]; rfl
end L3
namespace Vm
open PySem PySem.Spec PyProof.Rows L2 L3
section
open PySem.StrLaws Builtin Builtin.Str
/-! ### items with a comma and a blank between -/
def joinC : List (List Nat) → List Nat
  | [] => []
  | [l] => l
  | l :: m :: r => l ++ 44 :: 32 :: joinC (m :: r)
def cutsC : Nat → List (List Nat) → List Nat
  | _, [] => []
  | _, [_] => []
  | a, l :: m :: r => (a + l.length) :: cutsC (a + l.length + 2) (m :: r)
def cm : Str := ⟨#[44, 32]⟩
def atC (x : Str) (i : Nat) : Bool := decide (i + 2 ≤ x.length) && subAt x cm i
theorem occC (x : Str) (lim : Nat) (hx : ∀ i, atC x i = true → atC x (i + 1) = false) : ∀ (n a : Nat) (arr : Array Nat) (free : Nat), (free ≤ a ∨ (free ≤ a + 1 ∧ atC x a = false)) → arr.size + n ≤ lim →
    (forIn (List.range' a n) (arr, free) (occBody x cm x.length lim)).run.fst.toList = arr.toList ++ (List.range' a n).filter (atC x)
  | 0, a, arr, free, _, _ => by simp
  | n + 1, a, arr, free, hf, hl => by
    rw [List.range'_succ, List.forIn_cons]
    unfold occBody
    have e2 : cm.length = 2 := rfl
    cases ha : atC x a with
    | true =>
      have hf' : free ≤ a := by
        rcases hf with z | z
        · exact z
        · rw [ha] at z; exact absurd z.2 (by decide)
      have h2 := Bool.and_eq_true_iff.mp ha
      have h3 := of_decide_eq_true h2.1
      rw [if_pos ⟨⟨⟨by show arr.size < lim; omega, hf'⟩, by rw [e2]; exact h3⟩, h2.2⟩, List.filter_cons_of_pos ha]
      have ih := occC x lim hx n (a + 1) (arr.push a) (a + cm.length) (.inr ⟨by rw [e2]; omega, hx a ha⟩) (by rw [Array.size_push]; omega)
      unfold occBody at ih
      refine Eq.trans ih ?_
      rw [Array.toList_push, List.append_assoc]
      rfl
    | false =>
      rw [if_neg ?_, List.filter_cons_of_neg (by rw [ha]; exact Bool.false_ne_true)]
      · have ih := occC x lim hx n (a + 1) arr free (.inl (by rcases hf with z | z <;> omega)) (by omega)
        unfold occBody at ih
        exact ih
      · rintro ⟨⟨_, h1⟩, h2⟩
        rw [e2] at h1
        have : atC x a = true := Bool.and_eq_true_iff.mpr ⟨decide_eq_true h1, h2⟩
        rw [ha] at this
        exact Bool.false_ne_true this
theorem occ_filter (x : Str) (hx : ∀ i, atC x i = true → atC x (i + 1) = false) : occurrences x cm 0 x.length (x.length + 1) = (List.range' 0 (x.length + 1)).filter (atC x) := by
  rw [occ_eq]
  have := occC x (x.length + 1) hx (x.length + 1) 0 #[] 0 (.inl (Nat.le_refl _)) (by simp)
  rw [show x.length + 1 - 0 = x.length + 1 from rfl, this]
  simp
theorem atC_iff (x : Str) (i : Nat) : atC x i = true ↔ (x.cps.toList.drop i).take 2 = [44, 32] := by
  unfold atC
  rw [Bool.and_eq_true_iff, subAt_eq, decide_eq_true_iff]
  have e2 : cm.length = 2 := rfl
  have e3 : cm.cps.toList = [44, 32] := rfl
  rw [e2, e3, beq_iff_eq]
  constructor
  · exact fun h => h.2
  · intro h
    refine ⟨?_, h⟩
    have h1 := congrArg List.length h
    rw [List.length_take, List.length_drop] at h1
    have h2 : x.cps.toList.length = x.length := by simp [Str.length]
    rw [h2] at h1
    have h3 : [44, 32].length = 2 := rfl
    rw [h3] at h1
    omega
theorem atC_get {x : Str} {i : Nat} (h : atC x i = true) : x.cps.toList[i]? = some 44 ∧ x.cps.toList[i + 1]? = some 32 := by
  have h := (atC_iff x i).mp h
  have h0 : ((x.cps.toList.drop i).take 2)[0]? = some 44 := by rw [h]; rfl
  have h1 : ((x.cps.toList.drop i).take 2)[1]? = some 32 := by rw [h]; rfl
  rw [List.getElem?_take, if_pos (by decide), List.getElem?_drop] at h0 h1
  exact ⟨h0, h1⟩
theorem atC_next (x : Str) : ∀ i, atC x i = true → atC x (i + 1) = false := fun i h => by
  cases h2 : atC x (i + 1) with
  | false => rfl
  | true =>
    have a := (atC_get h).2
    rw [(atC_get h2).1] at a
    cases a
/-- the cuts of items without a comma -/
theorem cuts_filter (x : Str) : ∀ (ls : List (List Nat)) (pre : List Nat), ls ≠ [] → (∀ l ∈ ls, 44 ∉ l) → x.cps.toList = pre ++ joinC ls → (List.range' pre.length (x.length + 1 - pre.length)).filter (atC x) = cutsC pre.length ls
  | [], _, h, _, _ => absurd rfl h
  | [l], pre, _, hc, hx => by
    show _ = []
    rw [List.filter_eq_nil_iff]
    · intro i hi h
      have h1 := (atC_get h).1
      rw [hx] at h1
      have hm := List.mem_range'.mp hi
      obtain ⟨k, hk, rfl⟩ := hm
      rw [List.getElem?_append_right (by omega)] at h1
      exact hc l List.mem_cons_self (List.mem_of_getElem? h1)
  | l :: m :: r, pre, _, hc, hx => by
    have hlen : x.length = (pre ++ joinC (l :: m :: r)).length := by rw [← hx]; simp [Str.length]
    have ej : joinC (l :: m :: r) = l ++ 44 :: 32 :: joinC (m :: r) := rfl
    rw [ej, List.length_append, List.length_append, List.length_cons, List.length_cons] at hlen
    have er : x.length + 1 - pre.length = l.length + (2 + (x.length + 1 - (pre ++ l ++ [44, 32]).length)) := by
      simp only [List.length_append, List.length_cons, List.length_nil]
      omega
    have ih := cuts_filter x (m :: r) (pre ++ l ++ [44, 32]) (fun e => nomatch e) (fun k hk => hc k (List.mem_cons_of_mem _ hk)) (by rw [hx, ej]; simp)
    have el : (pre ++ l ++ [44, 32]).length = pre.length + l.length + 2 := by simp; omega
    rw [er, ← List.range'_append_1, List.filter_append, ← List.range'_append_1, List.filter_append, ← el, ih, el]
    have f1 : (List.range' pre.length l.length).filter (atC x) = [] := by
      rw [List.filter_eq_nil_iff]
      intro i hi h
      have h1 := (atC_get h).1
      obtain ⟨k, hk, rfl⟩ := List.mem_range'.mp hi
      rw [hx, ej, List.getElem?_append_right (by omega), List.getElem?_append_left (by omega)] at h1
      exact hc l List.mem_cons_self (List.mem_of_getElem? h1)
    have f2 : (List.range' (pre.length + l.length) 2).filter (atC x) = [pre.length + l.length] := by
      have t1 : atC x (pre.length + l.length) = true := by
        rw [atC_iff, hx, ej, ← List.append_assoc, List.drop_append_of_le_length (by simp), List.drop_of_length_le (by simp)]
        rfl
      have t2 := atC_next x _ t1
      show List.filter (atC x) [pre.length + l.length, pre.length + l.length + 1] = _
      rw [List.filter_cons_of_pos t1, List.filter_cons_of_neg (by rw [t2]; exact Bool.false_ne_true)]
      rfl
    rw [f1, f2]
    rfl
theorem parts_C (x : Str) : ∀ (ls : List (List Nat)) (pre : List Nat), ls ≠ [] → x.cps.toList = pre ++ joinC ls → partsFrom x 2 pre.length (cutsC pre.length ls) = ls.map mkS
  | [], _, h, _ => absurd rfl h
  | [l], pre, _, hx => by
    show [strSub x pre.length x.length] = [mkS l]
    congr 1
    apply Str.ext'
    apply Array.toList_inj.mp
    rw [strSub_toList, mkS_list, hx, List.drop_left]
    exact List.take_of_length_le (by
      have hlen : x.length = (pre ++ joinC [l]).length := by rw [← hx]; simp [Str.length]
      rw [hlen, List.length_append]
      show l.length ≤ _
      have : joinC [l] = l := rfl
      rw [this]; omega)
  | l :: m :: r, pre, _, hx => by
    have ej : joinC (l :: m :: r) = l ++ 44 :: 32 :: joinC (m :: r) := rfl
    have ih := parts_C x (m :: r) (pre ++ l ++ [44, 32]) (fun e => nomatch e) (by rw [hx, ej]; simp)
    have el : (pre ++ l ++ [44, 32]).length = pre.length + l.length + 2 := by simp; omega
    rw [el] at ih
    show strSub x pre.length (pre.length + l.length) :: partsFrom x 2 (pre.length + l.length + 2) (cutsC (pre.length + l.length + 2) (m :: r)) = _
    rw [ih, List.map_cons]
    congr 1
    apply Str.ext'
    apply Array.toList_inj.mp
    rw [strSub_toList, mkS_list, hx, List.drop_left, ej, Nat.add_sub_cancel_left, List.take_left]
theorem kind_cm : Builtin.Str.strKind cm = 1 := by decide +kernel
theorem kind_pos (x : Str) : 1 ≤ Builtin.Str.strKind x := by
  unfold Builtin.Str.strKind
  split
  · exact Nat.le_refl _
  · split <;> decide
/-- items without a comma come back -/
theorem split_C {x : Str} {ls : List (List Nat)} (hn : ls ≠ []) (hc : ∀ l ∈ ls, 44 ∉ l) (hx : x.cps.toList = joinC ls) : Txt.split x cm = ls.map mkS := by
  have ho : occurrences x cm 0 x.length (x.length + 1) = cutsC 0 ls := by
    rw [occ_filter x (atC_next x)]
    exact cuts_filter x ls [] hn hc hx
  have hp := parts_C x ls [] hn hx
  have one : ∀ l, ls = [l] → [x] = ls.map mkS := fun l e => by
    rw [e, List.map_cons, List.map_nil]
    congr 1
    apply Str.ext'
    apply Array.toList_inj.mp
    rw [mkS_list, hx, e]; rfl
  unfold Txt.split
  rw [kind_cm]
  have h2 : decide (Builtin.Str.strKind x < 1) = false := decide_eq_false (by have := kind_pos x; omega)
  rw [h2, Bool.or_false]
  have e2 : cm.length = 2 := rfl
  cases ls with
  | nil => exact absurd rfl hn
  | cons l r =>
    cases r with
    | nil =>
      by_cases h1 : decide (x.length < cm.length) = true
      · rw [if_pos h1]; exact one l rfl
      · rw [if_neg h1, ho, if_pos (show (cutsC 0 [l]).isEmpty = true from rfl)]; exact one l rfl
    | cons m r =>
      have hlen : x.length = (joinC (l :: m :: r)).length := by rw [← hx]; simp [Str.length]
      have ej : joinC (l :: m :: r) = l ++ 44 :: 32 :: joinC (m :: r) := rfl
      rw [ej, List.length_append, List.length_cons, List.length_cons] at hlen
      rw [if_neg (fun h => by have := of_decide_eq_true h; rw [e2] at this; omega), ho, if_neg (by intro h; cases h), partsBetween_eq, e2]
      exact hp
theorem sjoin_C : ∀ ws : List Str, (Str.join cm ws).cps.toList = joinC (ws.map fun z => z.cps.toList)
  | [] => rfl
  | [z] => rfl
  | z :: y :: r => by
    have ih := sjoin_C (y :: r)
    show (z ++ cm ++ Str.join cm (y :: r)).cps.toList = z.cps.toList ++ 44 :: 32 :: joinC ((y :: r).map fun z => z.cps.toList)
    rw [← ih, app_list, app_list, List.append_assoc]
    rfl
theorem join_C (ws : List Str) : (Txt.join cm ws).cps.toList = joinC (ws.map fun z => z.cps.toList) := by
  rw [← sjoin_C]
  show (glued cm ws).cps.toList = _
  rw [StrLaws.glued_eq_join]
theorem cm_eq : Str.ofString ", " = cm := by decide +kernel
theorem split_join_C {ws : List Str} (hn : ws ≠ []) (hc : ∀ z ∈ ws, 44 ∉ z.cps.toList) : Txt.split (Txt.join (Str.ofString ", ") ws) (Str.ofString ", ") = ws := by
  rw [cm_eq, split_C (ls := ws.map fun z => z.cps.toList) (fun e => hn (List.map_eq_nil_iff.mp e)) (fun l hl => ?_) (join_C ws), List.map_map]
  · have : (mkS ∘ fun z : Str => z.cps.toList) = _root_.id := by funext z; exact str_mk z
    rw [this, List.map_id]
  · obtain ⟨z, hz, rfl⟩ := List.mem_map.mp hl
    exact hc z hz
end
/-! ### steps as items -/
def isKeep : Sk → Bool
  | .keep => true
  | _ => false
theorem keep_eq (st : Sk) : eqL (stepV st) [.str (Str.ofString "keep")] = isKeep st := by
  cases st with
  | keep => decide +kernel
  | lose => decide +kernel
  | twice => decide +kernel
  | swap => decide +kernel
  | turn z => show (eqV _ _ && false) = false; rw [Bool.and_false]
  | add z => show (eqV _ _ && false) = false; rw [Bool.and_false]
  | skip m => show (eqV _ _ && false) = false; rw [Bool.and_false]
theorem step_flat (st : Sk) : (stepV st).all flatV = true := by cases st <;> rfl
def kw (n : Nat) : List Str := if n = 0 then [] else [numS (n : Int)]
def textV : V → Str
  | .str z => z
  | .int n => numS n
  | _ => Str.ofString ""
def partsS (st : Sk) : List Str := (stepV st).map textV
def itemS (st : Sk) : Str := Txt.join (Str.ofString " ") (partsS st)
theorem part_kind {st : Sk} (h : okS st) : ∀ x ∈ stepV st, (∃ z, x = .str z) ∨ ∃ m : Nat, x = .int (m : Nat) ∧ m ≤ 1000 := by
  intro x hx
  cases st with
  | skip m =>
    rcases List.mem_cons.mp hx with e | hx
    · exact .inl ⟨_, e⟩
    · exact .inr ⟨m, List.mem_singleton.mp hx, h.2⟩
  | turn z =>
    rcases List.mem_cons.mp hx with e | hx
    · exact .inl ⟨_, e⟩
    · exact .inl ⟨_, List.mem_singleton.mp hx⟩
  | add z =>
    rcases List.mem_cons.mp hx with e | hx
    · exact .inl ⟨_, e⟩
    · exact .inl ⟨_, List.mem_singleton.mp hx⟩
  | keep => exact .inl ⟨_, List.mem_singleton.mp hx⟩
  | lose => exact .inl ⟨_, List.mem_singleton.mp hx⟩
  | twice => exact .inl ⟨_, List.mem_singleton.mp hx⟩
  | swap => exact .inl ⟨_, List.mem_singleton.mp hx⟩
theorem bl_eq : Str.ofString " " = (⟨#[32]⟩ : Str) := by decide +kernel
theorem item_list (st : Sk) : (itemS st).cps.toList = joinL 32 ((partsS st).map fun z => z.cps.toList) := by
  unfold itemS; rw [bl_eq]; exact glue_list 32 _
def turnS : Str := Str.ofString "turn"
def addS : Str := Str.ofString "add"
def skipS : Str := Str.ofString "skip"
def kinds : List Str := [Str.ofString "keep", Str.ofString "lose", Str.ofString "twice", Str.ofString "swap", Str.ofString "turn", Str.ofString "add", Str.ofString "skip"]
/-- a step's item: its kind alone, or its kind and a word or a number behind a blank -/
theorem item_form (st : Sk) (h : okS st) : (∃ k ∈ kinds, itemS st = k) ∨ ∃ k ∈ kinds, ∃ z : Str, (itemS st).cps.toList = k.cps.toList ++ 32 :: z.cps.toList ∧ z.length ≤ 40 ∧ 32 ∉ z.cps.toList ∧ 44 ∉ z.cps.toList := by
  have g : ∀ z : Str, Good z → z.length ≤ 40 ∧ 32 ∉ z.cps.toList ∧ 44 ∉ z.cps.toList := fun z gz => by
    refine ⟨by have := gz.hi; omega, fun hc => ?_, fun hc => ?_⟩
    · have := gz.al 32 hc; unfold Al at this; omega
    · have := gz.al 44 hc; unfold Al at this; omega
  cases st with
  | turn z => exact .inr ⟨_, by simp [kinds, textV, turnS, addS, skipS], z, item_list _, g z h⟩
  | add z => exact .inr ⟨_, by simp [kinds, textV, turnS, addS, skipS], z, item_list _, g z h⟩
  | skip m =>
    refine .inr ⟨_, by simp [kinds, textV, turnS, addS, skipS], numS (m : Int), item_list (.skip m), numS_len (by omega) (by have := h.2; omega), fun hc => ?_, fun hc => ?_⟩
    · have := numS_digits m 32 hc; omega
    · have := numS_digits m 44 hc; omega
  | keep => exact .inl ⟨Str.ofString "keep", by simp [kinds], by decide +kernel⟩
  | lose => exact .inl ⟨Str.ofString "lose", by simp [kinds], by decide +kernel⟩
  | twice => exact .inl ⟨Str.ofString "twice", by simp [kinds], by decide +kernel⟩
  | swap => exact .inl ⟨Str.ofString "swap", by simp [kinds], by decide +kernel⟩
theorem kinds_facts : ∀ k ∈ kinds, k.length ≤ 5 ∧ 32 ∉ k.cps.toList ∧ 44 ∉ k.cps.toList ∧ writesB k = false := by decide +kernel
theorem item_len {st : Sk} (h : okS st) : (itemS st).length ≤ 60 := by
  rcases item_form st h with ⟨k, hk, e⟩ | ⟨k, hk, z, e, hz, _⟩
  · rw [e]; have := (kinds_facts k hk).1; omega
  · rw [← clen, e, List.length_append, List.length_cons, clen, clen]
    have := (kinds_facts k hk).1
    omega
theorem item_comma {st : Sk} (h : okS st) : 44 ∉ (itemS st).cps.toList := by
  rcases item_form st h with ⟨k, hk, e⟩ | ⟨k, hk, z, e, hz, _, hc⟩
  · rw [e]; exact (kinds_facts k hk).2.2.1
  · rw [e]
    intro hm
    rcases List.mem_append.mp hm with hm | hm
    · exact (kinds_facts k hk).2.2.1 hm
    · rcases List.mem_cons.mp hm with hm | hm
      · cases hm
      · exact hc hm
def wStep (x : List Str × Nat) (st : Sk) : List Str × Nat := if isKeep st = true then (x.1, x.2 + 1) else (x.1 ++ kw x.2 ++ [itemS st], 0)
def wAll (sts : List Sk) : List Str × Nat := sts.foldl wStep ([], 0)
def itemsS (sts : List Sk) : List Str := (wAll sts).1 ++ kw (wAll sts).2
def textS (sts : List Sk) : Str := Txt.join (Str.ofString ", ") (itemsS sts)
theorem wAll_turn {sts : List Sk} {i : Nat} {st : Sk} (hi : sts[i]? = some st) : wAll (sts.take (i + 1)) = wStep (wAll (sts.take i)) st := by
  have hl := (List.getElem?_eq_some_iff.mp hi).1
  unfold wAll
  rw [List.take_succ_eq_append_getElem hl, (List.getElem?_eq_some_iff.mp hi).2, List.foldl_append]
  rfl
theorem kw_len {n : Nat} (h : n ≤ 1000) : (kw n).length ≤ 1 ∧ ∀ z ∈ kw n, z.length ≤ 60 := by
  unfold kw
  by_cases h0 : n = 0
  · rw [if_pos h0]; exact ⟨Nat.zero_le _, fun _ z => nomatch z⟩
  · rw [if_neg h0]
    refine ⟨Nat.le_refl _, fun z hz => ?_⟩
    rw [List.mem_singleton.mp hz]
    have := numS_len (n := (n : Int)) (by omega) (by omega)
    omega
theorem kw_min (n : Nat) : (kw n).length = min n 1 := by
  unfold kw
  by_cases h0 : n = 0
  · rw [if_pos h0, h0]; rfl
  · rw [if_neg h0]; show 1 = _; omega
theorem sum60 {ws : List Str} (h : ∀ z ∈ ws, z.length ≤ 60) : (ws.map (·.length)).sum ≤ 60 * ws.length := by
  induction ws with
  | nil => exact Nat.zero_le _
  | cons z r ih =>
    have h1 := h z List.mem_cons_self
    have h2 := ih fun y hy => h y (List.mem_cons_of_mem _ hy)
    rw [List.map_cons, List.sum_cons, List.length_cons]
    omega
/-! ### items read -/
def cntI (z : Str) : Option Int := if pnum z 80 = some 0 then none else pnum z 80
theorem pnum_in {z : Str} {m n : Int} (h : pnum z m = some n) : 0 ≤ n ∧ n ≤ m := by
  unfold pnum at h
  split at h
  · split at h
    · cases h
      exact ⟨by omega, by assumption⟩
    · cases h
  · cases h
theorem cnt_in {z : Str} {n : Int} (h : cntI z = some n) : 1 ≤ n ∧ n ≤ 80 := by
  unfold cntI at h
  split at h
  · cases h
  · rename_i h0
    have h1 := pnum_in h
    have : n ≠ 0 := fun e => h0 (by rw [h, e])
    omega
def pairR (k z : Str) : Option Sk :=
  if (k = turnS ∨ k = addS) ∧ wordB z = true then some (if k = turnS then .turn z else .add z)
  else if k = skipS then (cntI z).map fun n => .skip n.toNat else none
def itemR (z : Str) : Option (List Sk) :=
  if z = Str.ofString "lose" then some [.lose] else if z = Str.ofString "twice" then some [.twice] else if z = Str.ofString "swap" then some [.swap] else
  match cntI z with
  | some n => some (List.replicate n.toNat .keep)
  | none => match Txt.split z (Str.ofString " ") with
    | [a, b] => (pairR a b).map fun st => [st]
    | _ => none
def readAll : List Str → Option (List Sk)
  | [] => some []
  | z :: r => (itemR z).bind fun a => (readAll r).map fun b => a ++ b
def readS (z : Str) : Option (List Sk) := if z = Str.ofString "" then some [] else (readAll (Txt.split z (Str.ofString ", "))).bind fun sts => if 80 < sts.length then none else some sts
theorem readAll_append : ∀ a b : List Str, readAll (a ++ b) = (readAll a).bind fun x => (readAll b).map fun y => x ++ y
  | [], b => by
    show readAll b = (some []).bind _
    cases readAll b <;> rfl
  | z :: a, b => by
    show (itemR z).bind (fun x => (readAll (a ++ b)).map fun y => x ++ y) = ((itemR z).bind fun x => (readAll a).map fun y => x ++ y).bind _
    cases itemR z with
    | none => rfl
    | some x =>
      show (readAll (a ++ b)).map _ = ((readAll a).map _).bind _
      rw [readAll_append a b]
      cases readAll a with
      | none => rfl
      | some y =>
        show Option.map _ ((readAll b).map _) = (readAll b).map _
        cases readAll b with
        | none => rfl
        | some u => show some (x ++ (y ++ u)) = some (x ++ y ++ u); rw [List.append_assoc]
theorem readAll_turn {ws : List Str} {i : Nat} {z : Str} (hi : ws[i]? = some z) {x : List Sk} (h : readAll (ws.take i) = some x) : readAll (ws.take (i + 1)) = (itemR z).map fun y => x ++ y := by
  have hl := (List.getElem?_eq_some_iff.mp hi).1
  rw [List.take_succ_eq_append_getElem hl, (List.getElem?_eq_some_iff.mp hi).2, readAll_append, h]
  show ((itemR z).bind fun a => (some []).map fun b => a ++ b).map _ = _
  cases itemR z with
  | none => rfl
  | some a => show some (x ++ (a ++ [])) = some (x ++ a); rw [List.append_nil]
theorem readAll_stop {ws : List Str} {i : Nat} (h : readAll (ws.take i) = none) : readAll ws = none := by
  have e : ws = ws.take i ++ ws.drop i := (List.take_append_drop i ws).symm
  rw [e, readAll_append, h]; rfl
theorem pair_ok {k z : Str} {st : Sk} (h : pairR k z = some st) : okS st ∧ isKeep st = false := by
  unfold pairR at h
  split at h
  · rename_i hc
    have g := wordB_iff.mp hc.2
    cases h
    split
    · exact ⟨g, rfl⟩
    · exact ⟨g, rfl⟩
  · split at h
    · cases hz : cntI z with
      | none => rw [hz] at h; cases h
      | some n =>
        rw [hz] at h
        cases h
        have := cnt_in hz
        exact ⟨⟨by omega, by omega⟩, rfl⟩
    · cases h
theorem item_ok {z : Str} {sts : List Sk} (h : itemR z = some sts) : sts.length ≤ 80 ∧ ∀ st ∈ sts, okS st := by
  have one : ∀ st, okS st → [st] = sts → sts.length ≤ 80 ∧ ∀ st ∈ sts, okS st := fun st o e => by
    subst e
    exact ⟨by show 1 ≤ 80; omega, fun s hs => by rw [List.mem_singleton.mp hs]; exact o⟩
  unfold itemR at h
  split at h
  · exact one .lose trivial (Option.some.inj h)
  split at h
  · exact one .twice trivial (Option.some.inj h)
  split at h
  · exact one .swap trivial (Option.some.inj h)
  split at h
  · rename_i n hn
    have := cnt_in hn
    cases h
    refine ⟨by rw [List.length_replicate]; omega, fun s hs => ?_⟩
    rw [List.eq_of_mem_replicate hs]; trivial
  · split at h
    · rename_i a b _
      cases hp : pairR a b with
      | none => rw [hp] at h; cases h
      | some st => rw [hp] at h; exact one st (pair_ok hp).1 (Option.some.inj h)
    · cases h
/-! ### what is written is read -/
theorem num80 : ∀ n, n < 81 → pnum (numS ((n : Nat) : Int)) 80 = some ((n : Nat) : Int) := by decide +kernel
theorem cnt_num {n : Nat} (h1 : 1 ≤ n) (h2 : n ≤ 80) : cntI (numS (n : Int)) = some (n : Int) := by
  unfold cntI
  rw [num80 n (by omega), if_neg (fun e => by have := Option.some.inj e; omega)]
theorem cnt_none {z : Str} (h : writesB z = false) : cntI z = none := by
  have : pnum z 80 = none := by unfold pnum; rw [h]; rfl
  unfold cntI
  rw [this, if_neg (fun e => nomatch e)]
theorem digit_ne {n : Nat} {k : Str} (hk : ∃ c ∈ k.cps.toList, 97 ≤ c) : numS (n : Int) ≠ k := fun e => by
  obtain ⟨c, hc, hl⟩ := hk
  rw [← e] at hc
  have := numS_digits n c hc
  omega
theorem read_num {n : Nat} (h1 : 1 ≤ n) (h2 : n ≤ 80) : itemR (numS (n : Int)) = some (List.replicate n .keep) := by
  unfold itemR
  rw [if_neg (digit_ne (by decide +kernel)), if_neg (digit_ne (by decide +kernel)), if_neg (digit_ne (by decide +kernel)), cnt_num h1 h2]
  show some (List.replicate ((n : Int)).toNat Sk.keep) = _
  rw [Int.toNat_natCast]
theorem split_two {x k z : Str} (e : x.cps.toList = k.cps.toList ++ 32 :: z.cps.toList) (hk : 32 ∉ k.cps.toList) (hz : 32 ∉ z.cps.toList) : Txt.split x (Str.ofString " ") = [k, z] := by
  rw [bl_eq, split_eq, e, splitL_app _ hk, splitL_free hz]
  show [(⟨k.cps.toList.toArray⟩ : Str), ⟨z.cps.toList.toArray⟩] = _
  rw [str_mk, str_mk]
theorem blank_not {x : Str} (h : 32 ∈ x.cps.toList) : writesB x = false ∧ ∀ k ∈ kinds, x ≠ k := by
  refine ⟨?_, fun k hk e => (kinds_facts k hk).2.1 (by rw [← e]; exact h)⟩
  unfold writesB
  split
  · rfl
  · rw [if_neg]
    intro ho
    have := only_digits ho 32 h
    omega
theorem read_item {st : Sk} (h : okS st) (h80 : ∀ m, st = .skip m → m ≤ 80) (hk : isKeep st = false) : itemR (itemS st) = some [st] := by
  have two : ∀ (k : Str) (z : Str), k ∈ kinds → 32 ∉ z.cps.toList → (itemS st).cps.toList = k.cps.toList ++ 32 :: z.cps.toList → pairR k z = some st → itemR (itemS st) = some [st] := fun k z kk hz e hp => by
    have hb := blank_not (x := itemS st) (by rw [e]; simp)
    unfold itemR
    rw [if_neg (hb.2 _ (by simp [kinds, textV, turnS, addS, skipS])), if_neg (hb.2 _ (by simp [kinds, textV, turnS, addS, skipS])), if_neg (hb.2 _ (by simp [kinds, textV, turnS, addS, skipS])), cnt_none hb.1, split_two e (kinds_facts k kk).2.1 hz]
    show (pairR k z).map _ = _
    rw [hp]; rfl
  have g : ∀ z : Str, Good z → 32 ∉ z.cps.toList := fun z gz hc => by have := gz.al 32 hc; unfold Al at this; omega
  cases st with
  | keep => cases hk
  | lose =>
    have e : itemS .lose = Str.ofString "lose" := by decide +kernel
    rw [e]; unfold itemR; rw [if_pos rfl]
  | twice =>
    have e : itemS .twice = Str.ofString "twice" := by decide +kernel
    rw [e]; unfold itemR; rw [if_neg (by decide +kernel), if_pos rfl]
  | swap =>
    have e : itemS .swap = Str.ofString "swap" := by decide +kernel
    rw [e]; unfold itemR; rw [if_neg (by decide +kernel), if_neg (by decide +kernel), if_pos rfl]
  | turn z =>
    refine two turnS z (by simp [kinds, turnS]) (g z h) (item_list _) ?_
    unfold pairR
    rw [if_pos ⟨.inl rfl, wordB_iff.mpr h⟩, if_pos rfl]
  | add z =>
    refine two addS z (by simp [kinds, addS]) (g z h) (item_list _) ?_
    unfold pairR
    rw [if_pos ⟨.inr rfl, wordB_iff.mpr h⟩, if_neg (by decide +kernel)]
  | skip m =>
    refine two skipS (numS (m : Int)) (by simp [kinds, skipS]) (fun hc => by have := numS_digits m 32 hc; omega) (item_list _) ?_
    unfold pairR
    rw [if_neg (fun c => absurd c.1 (by decide +kernel)), if_pos rfl, cnt_num h.1 (h80 m rfl)]
    show some (Sk.skip ((m : Int)).toNat) = _
    rw [Int.toNat_natCast]
def ok80 (st : Sk) : Prop := okS st ∧ ∀ m, st = .skip m → m ≤ 80
theorem read_kw {n : Nat} (h : n ≤ 80) : readAll (kw n) = some (List.replicate n .keep) := by
  unfold kw
  by_cases h0 : n = 0
  · rw [if_pos h0, h0]; rfl
  · rw [if_neg h0]
    show ((itemR (numS (n : Int))).bind fun a => (some []).map fun b => a ++ b) = _
    rw [read_num (by omega) h]
    show some (_ ++ []) = _
    rw [List.append_nil]
theorem read_items : ∀ (sts : List Sk) (done : List Sk) (x : List Str × Nat), (∀ st ∈ sts, ok80 st) → x.2 + sts.length ≤ 80 → readAll x.1 = some done → readAll ((sts.foldl wStep x).1 ++ kw (sts.foldl wStep x).2) = some (done ++ List.replicate x.2 .keep ++ sts)
  | [], done, x, _, hn, hd => by
    show readAll (x.1 ++ kw x.2) = _
    rw [readAll_append, hd, read_kw (by have : x.2 + 0 ≤ 80 := hn; omega)]
    show some (done ++ _) = _
    rw [List.append_nil]
  | st :: r, done, x, ho, hn, hd => by
    rw [List.foldl_cons]
    rw [List.length_cons] at hn
    have hr : ∀ s ∈ r, ok80 s := fun s hs => ho s (List.mem_cons_of_mem _ hs)
    have hs := ho st List.mem_cons_self
    cases hk : isKeep st with
    | true =>
      have e : wStep x st = (x.1, x.2 + 1) := by unfold wStep; rw [if_pos hk]
      have est : st = .keep := by cases st <;> first | rfl | cases hk
      rw [e, read_items r done (x.1, x.2 + 1) hr (by show x.2 + 1 + r.length ≤ 80; omega) hd, est]
      show some (done ++ List.replicate (x.2 + 1) Sk.keep ++ r) = _
      rw [List.replicate_succ']
      simp
    | false =>
      have e : wStep x st = (x.1 ++ kw x.2 ++ [itemS st], 0) := by unfold wStep; rw [if_neg (by rw [hk]; exact Bool.false_ne_true)]
      have h2 : readAll (x.1 ++ kw x.2 ++ [itemS st]) = some (done ++ List.replicate x.2 .keep ++ [st]) := by
        rw [readAll_append, readAll_append, hd, read_kw (by omega)]
        show ((itemR (itemS st)).bind fun a => (some []).map fun b => a ++ b).map _ = _
        rw [read_item hs.1 hs.2 hk]; rfl
      rw [e, read_items r _ (x.1 ++ kw x.2 ++ [itemS st], 0) hr (by show 0 + r.length ≤ 80; omega) h2]
      show some (_ ++ [] ++ r) = _
      simp
theorem items_comma : ∀ (sts : List Sk) (x : List Str × Nat), (∀ st ∈ sts, okS st) → (∀ z ∈ x.1, 44 ∉ z.cps.toList) → ∀ z ∈ (sts.foldl wStep x).1 ++ kw (sts.foldl wStep x).2, 44 ∉ z.cps.toList
  | [], x, _, hx => fun z hz => by
    rcases List.mem_append.mp hz with hz | hz
    · exact hx z hz
    · unfold kw at hz
      split at hz
      · cases hz
      · rw [List.mem_singleton.mp hz]
        intro hc
        have := numS_digits _ 44 hc
        omega
  | st :: r, x, ho, hx => by
    rw [List.foldl_cons]
    refine items_comma r _ (fun s hs => ho s (List.mem_cons_of_mem _ hs)) fun z hz => ?_
    unfold wStep at hz
    split at hz
    · exact hx z hz
    · rcases List.mem_append.mp hz with hz | hz
      · rcases List.mem_append.mp hz with hz | hz
        · exact hx z hz
        · unfold kw at hz
          split at hz
          · cases hz
          · rw [List.mem_singleton.mp hz]
            intro hc
            have := numS_digits _ 44 hc
            omega
      · rw [List.mem_singleton.mp hz]
        exact item_comma (ho st List.mem_cons_self)
/-- a text of items -/
theorem text_ne_C {ws : List Str} (hn : ws ≠ []) (hp : ∀ z ∈ ws, z ≠ Str.ofString "") : Txt.join (Str.ofString ", ") ws ≠ Str.ofString "" := by
  intro e
  have h1 := join_C ws
  rw [← cm_eq, e] at h1
  have h0 : (Str.ofString "").cps.toList = [] := by decide +kernel
  rw [h0] at h1
  cases ws with
  | nil => exact hn rfl
  | cons z r =>
    cases r with
    | nil =>
      have h2 : [] = z.cps.toList := h1
      exact hp z List.mem_cons_self (by
        apply Str.ext'
        apply Array.toList_inj.mp
        rw [← h2, h0])
    | cons y r =>
      have h2 : [] = z.cps.toList ++ 44 :: 32 :: joinC ((y :: r).map fun z => z.cps.toList) := h1
      have := congrArg List.length h2
      rw [List.length_append, List.length_cons] at this
      simp at this
theorem item_ne {z : Str} {sts : List Sk} (h : itemR z = some sts) : z ≠ Str.ofString "" := fun e => by
  subst e
  have : itemR (Str.ofString "") = none := by decide +kernel
  rw [this] at h; cases h
theorem readAll_ne : ∀ {ws : List Str} {sts : List Sk}, readAll ws = some sts → ∀ z ∈ ws, z ≠ Str.ofString ""
  | [], _, _ => fun _ z => nomatch z
  | y :: r, sts, h => fun z hz => by
    have h' : ((itemR y).bind fun a => (readAll r).map fun b => a ++ b) = some sts := h
    cases hy : itemR y with
    | none => rw [hy] at h'; cases h'
    | some a =>
      cases hr : readAll r with
      | none => rw [hy, hr] at h'; cases h'
      | some b =>
        rcases List.mem_cons.mp hz with e | hz
        · rw [e]; exact item_ne hy
        · exact readAll_ne hr z hz
/-- items that are read, put together -/
theorem readS_join {ws : List Str} {sts : List Sk} (h : readAll ws = some sts) (hc : ∀ z ∈ ws, 44 ∉ z.cps.toList) (hn : sts.length ≤ 80) : readS (Txt.join (Str.ofString ", ") ws) = some sts := by
  unfold readS
  by_cases h0 : ws = []
  · subst h0
    have : sts = [] := by cases h; rfl
    subst this
    have e : Txt.join (Str.ofString ", ") [] = Str.ofString "" := by decide +kernel
    rw [if_pos e]
  · rw [if_neg (text_ne_C h0 (readAll_ne h)), split_join_C h0 hc, h]
    show (if 80 < sts.length then none else some sts) = _
    rw [if_neg (by omega)]
theorem readS_text {sts : List Sk} (ho : ∀ st ∈ sts, ok80 st) (hn : sts.length ≤ 80) : readS (textS sts) = some sts := by
  have h1 := read_items sts [] ([], 0) ho (by show 0 + sts.length ≤ 80; omega) rfl
  exact readS_join h1 (items_comma sts ([], 0) (fun st hs => (ho st hs).1) (fun _ z => nomatch z)) hn
/-! ### the steps' tuples, as they lie there -/
structure TupsAt (H : Hp) (ts : List Addr) (sts : List Sk) : Prop where
  len : ts.length = sts.length
  item : ∀ (i : Nat) (t : Addr) (st : Sk), ts[i]? = some t → sts[i]? = some st → H t = some (.tup (stepV st)) ∧ okS st
theorem TupsAt.at {K : PySem.W.Frag} {H : Hp} {ts : List Addr} {sts : List Sk} (h : TupsAt H ts sts) : StepsAt K H ts sts :=
  ⟨h.len, fun i t st e1 e2 => ⟨SqT.of (h.item i t st e1 e2).1, (h.item i t st e1 e2).2⟩⟩
theorem TupsAt.mono {H H' : Hp} {ts : List Addr} {sts : List Sk} (S : Same H H') (h : TupsAt H ts sts) : TupsAt H' ts sts :=
  ⟨h.len, fun i t st e1 e2 => ⟨S _ _ (h.item i t st e1 e2).1, (h.item i t st e1 e2).2⟩⟩
theorem TupsAt.nil {H : Hp} : TupsAt H [] [] := ⟨rfl, fun i t st e _ => by simp at e⟩
theorem TupsAt.app {H : Hp} {ts us : List Addr} {sts sus : List Sk} (h : TupsAt H ts sts) (h2 : TupsAt H us sus) : TupsAt H (ts ++ us) (sts ++ sus) := by
  refine ⟨by rw [List.length_append, List.length_append, h.len, h2.len], fun i t st e1 e2 => ?_⟩
  by_cases hi : i < ts.length
  · rw [List.getElem?_append_left hi] at e1
    rw [List.getElem?_append_left (by rw [← h.len]; exact hi)] at e2
    exact h.item i t st e1 e2
  · rw [List.getElem?_append_right (by omega)] at e1
    rw [List.getElem?_append_right (by rw [← h.len]; omega), ← h.len] at e2
    exact h2.item _ t st e1 e2
theorem TupsAt.one {H : Hp} {t : Addr} {st : Sk} (h : H t = some (.tup (stepV st))) (ho : okS st) : TupsAt H [t] [st] := by
  refine ⟨rfl, fun i t' st' e1 e2 => ?_⟩
  cases i with
  | zero => cases e1; cases e2; exact ⟨h, ho⟩
  | succ i => simp at e1
theorem TupsAt.rep {H : Hp} {t : Addr} {st : Sk} (h : H t = some (.tup (stepV st))) (ho : okS st) : ∀ n : Nat, TupsAt H (List.replicate n t) (List.replicate n st)
  | 0 => TupsAt.nil
  | n + 1 => by
    have := (TupsAt.one h ho).app (TupsAt.rep h ho n)
    exact this
theorem TupsAt.set {H : Hp} {l : Addr} {ts : List Addr} {sts : List Sk} {ys : List V} {o : HO} (h : TupsAt H ts sts) (hl : H l = some (.lst ys)) : TupsAt (upd H l o) ts sts :=
  ⟨h.len, fun i t st e1 e2 => ⟨by
    have e := (h.item i t st e1 e2).1
    have n : t ≠ l := fun z => by rw [z, hl] at e; cases e
    rw [upd_ne n]; exact e, (h.item i t st e1 e2).2⟩⟩
theorem repFlat {α : Type} (x : α) : ∀ n : Nat, (List.replicate n [x]).flatten = List.replicate n x
  | 0 => rfl
  | n + 1 => by rw [List.replicate_succ, List.flatten_cons, repFlat x n, List.replicate_succ]; rfl
theorem freeNe {H : Hp} {p r : Addr} {o : HO} (h : upd H p o r = none) : r ≠ p ∧ H r = none := by
  have n : r ≠ p := fun e => by rw [e, upd_same] at h; cases h
  exact ⟨n, by rw [upd_ne n] at h; exact h⟩
theorem in_two (k a b : Str) : inV (.str k) [.str a, .str b] = true ↔ k = a ∨ k = b := by
  show ((a == k) || ((b == k) || false)) = true ↔ _
  rw [Bool.or_false, Bool.or_eq_true, beq_iff_eq, beq_iff_eq]
  exact ⟨fun h => h.imp Eq.symm Eq.symm, fun h => h.imp Eq.symm Eq.symm⟩
theorem in_three (k a b c : Str) : inV (.str k) [.str a, .str b, .str c] = true ↔ k = a ∨ k = b ∨ k = c := by
  show ((a == k) || ((b == k) || ((c == k) || false))) = true ↔ _
  rw [Bool.or_false, Bool.or_eq_true, Bool.or_eq_true, beq_iff_eq, beq_iff_eq, beq_iff_eq]
  exact ⟨fun h => h.imp Eq.symm fun h => h.imp Eq.symm Eq.symm, fun h => h.imp Eq.symm fun h => h.imp Eq.symm Eq.symm⟩
theorem split_small {z y : Str} (hy : 1 ≤ y.length) : (Txt.split z y).length ≤ z.length + 2 ∧ ∀ m ∈ Txt.split z y, m.length ≤ z.length + 1 := by
  refine ⟨PyProof.Rows.split_le z y, fun m hm => ?_⟩
  have h := PyProof.Rows.split_weight z y hy
  have : m.length ≤ ((Txt.split z y).map (·.length)).sum := by
    generalize Txt.split z y = l at hm
    clear h
    induction l with
    | nil => cases hm
    | cons a r ih =>
      rw [List.map_cons, List.sum_cons]
      rcases List.mem_cons.mp hm with e | hm
      · rw [e]; omega
      · have := ih hm; omega
  omega
theorem item_rest {z : Str} (n1 : z ≠ Str.ofString "lose") (n2 : z ≠ Str.ofString "twice") (n3 : z ≠ Str.ofString "swap") (hc : cntI z = none) : itemR z = match Txt.split z (Str.ofString " ") with
    | [a, b] => (pairR a b).map fun st => [st]
    | _ => none := by
  unfold itemR
  rw [if_neg n1, if_neg n2, if_neg n3, hc]
/-- a module's tuple of texts -/
theorem sqT_mod {K : PySem.W.Frag} {a : Addr} {ws : List (Str × Tok)} {n : Nat} {sl : Array (Option Value)} (h : K.lookup a = some ⟨.type "tuple", none, .seq (ws.map fun p => Value.str p.1 p.2).toArray n, sl⟩) (hz : ws.length ≤ 1000) (H : Hp) : SqT K H a (ws.map fun p => V.str p.1) := by
  refine .inr ⟨_, _, n, h, rfl, rfl, by rw [List.size_toArray, List.length_map]; exact few (by omega), ?_⟩
  rw [List.toList_toArray]
  clear h hz
  induction ws with
  | nil => exact .nil
  | cons p r ih => exact .cons ⟨p.2, rfl⟩ ih
end Vm

set_option Elab.async false
set_option linter.all false
set_option maxRecDepth 100000
set_option maxHeartbeats 4000000
/-! range with a step. -/
namespace L3
open PySem PySem.Spec PyProof.Rows L2
def Itr3 (lo c : Int) (n : Nat) : It := ⟨fun i _ => i < n, fun i H x H' => H' = H ∧ x = .int (lo + (i : Nat) * c), fun i _ => n ≤ i⟩
theorem turn_range3 {P : Program} {w : World} {K : PySem.W.Frag} {tg : Expr} (it : Addr) (lo c : Int) (n : Nat) : Turn P w K tg (Itr3 lo c n) [it] it (fun i h => IsRangeIter h it (lo + (i : Nat) * c) ((n : Int) - (i : Nat)) c) where
  mem := List.mem_singleton.mpr rfl
  obj := fun i h st b hb => by
    rw [List.mem_singleton.mp hb]
    exact ⟨_, st, fun v z => nomatch (show Data.fields _ = Data.cell v from z)⟩
  keep := fun i h h' st k => k it (List.mem_singleton.mpr rfl) _ st
  item := by
    intro X hP hw hK hc i pins s σ H E I hf st hg
    subst hP hw hK
    obtain ⟨f0, f1, f2, f3, f4, f5⟩ := hf it (List.mem_singleton.mpr rfl)
    refine (Walks.range (prog := X.prog) (w := X.w) (I.ok.hd hc) it lo c n).item i s _ _ hg st fun v h' tk hv st' kk => ?_
    obtain ⟨t, rfl⟩ := hv
    have I1 : Inv X pins σ H { s with heap := h', toks := tk } := I.turned (fun b o hb e => kk b o (fun z => hb (List.mem_singleton.mp z)) e) f0 f1 f3 f4 f5
    exact ⟨_, rfl, go_of (s := { s with heap := h', toks := tk }) (n := "range_iterator") st' rfl rfl (by decide) ⟨.int (lo + (i : Nat) * c), H, I1, ⟨t, rfl⟩, ⟨rfl, rfl⟩, st', fun b hb => (hf b hb).1⟩⟩
  done := by
    intro X hP hw hK hc i pins s σ H E I hf st hg
    subst hP hw hK
    obtain ⟨f0, f1, f2, f3, f4, f5⟩ := hf it (List.mem_singleton.mpr rfl)
    have hle : (n : Int) - (i : Nat) ≤ 0 := by have : n ≤ i := hg; omega
    exact wpAny_pyNext_range_end (I.ok.hd hc) st hle fun h' eb => ⟨rfl, I.turned (t' := s.toks) (fun b o hb e => eb b o hb e) f0 f1 f3 f4 f5⟩
  self := fun _ _ _ _ _ st h => wpAny_pyIter_rangeiter st h
section
variable {X : Cx} {tg : Expr}
theorem range_it3 {pins : List (Addr × Obj)} {σ : L2.St} {H : Hp} {s : Shared} {R : It → Hp → Prop} {E : Value → Shared → Prop} {lo hi c : Int} {n : Nat} {t u v : Tok} {tk : Nat} (I : Inv X pins σ H s) (hs : Builtin.Range.small lo hi c = true) (hn : Builtin.Range.rangeSize lo hi c = (n : Int))
    (q : R (Itr3 lo c n) H) : wpAny (model X.prog X.w) X.A (pyIter (.ref s.heap.objs.size)) (PIE X pins σ tg R) E { s with heap := s.heap.push { cls := .type "range", data := .fields #[.int lo t, .int hi u, .int c v] }, toks := tk } := by
  refine wpAny_pyIter_range (IsRange.new ..) hs ?_
  have I1 : Inv X pins σ H { s with heap := s.heap.push { cls := .type "range", data := .fields #[.int lo t, .int hi u, .int c v] }, toks := tk } := I.kept fun b o e => Heap.get?_push_of_some _ e
  generalize hg : s.heap.push { cls := .type "range", data := .fields #[.int lo t, .int hi u, .int c v] } = g at I1
  refine ⟨g.objs.size, [g.objs.size], _, _, H, rfl, I1.kept (t' := tk) fun b o e => Heap.get?_push_of_some _ e, turn_range3 _ lo c n, ?_, fun b hb => ?_, q⟩
  · show IsRangeIter _ _ (lo + ((0 : Nat) : Int) * c) ((n : Int) - ((0 : Nat) : Int)) c
    rw [show lo + ((0 : Nat) : Int) * c = lo by simp, show (n : Int) - ((0 : Nat) : Int) = Builtin.Range.rangeSize lo hi c by rw [hn]; simp]
    exact Heap.get?_push_size _ rfl
  · rw [List.mem_singleton.mp hb]
    exact I1.fpOk (Nat.le_refl _) (I1.hok.fresh (Nat.le_refl _))
def iRng3 (ta : TA) : TI := fun σ H R => ta σ H fun vs H1 => ∃ (i j c : Int) (n : Nat), vs = [.int i, .int j, .int c] ∧ c ≠ 0 ∧ c.natAbs < 1073741824 ∧ Builtin.Range.small i j c = true ∧ Builtin.Range.rangeSize i j c = (n : Int) ∧ R (Itr3 i c n) H1
theorem pi_range3 {a b d : Expr} {ta : TA} {p pos : Pos} (hg : Gl X "range") (hm : X.mg "range" = none) (ha : PA X [a, b, d] ta) (hs : starEach [a, b, d] X.env = [(false, eval a X.env), (false, eval b X.env), (false, eval d X.env)] := by rfl) (hs2 : starEach [b, d] X.env = [(false, eval b X.env), (false, eval d X.env)] := by rfl) :
    PI X tg (.Call (.Name "range" p) [a, b, d] [] pos) (iRng3 ta) := by
  intro pins s σ H R I h
  refine Call_ (ld_blt I hg hm boot_range (PyProof.Rows.callWith_type1 (thn (ha pos pins s σ H _ I h) fun us s1 ⟨vs, H1, I1, r1, q1⟩ => ?_) (by rw [hs, hs2]) (by rw [hs2]; rfl)))
  obtain ⟨i, j, c, n, e, hc, hc2, h1, h2, q⟩ := q1
  subst e
  cases r1 with
  | cons r rr =>
  cases rr with
  | cons r' rr =>
  cases rr with
  | cons r'' rr =>
    cases rr
    obtain ⟨t, rfl⟩ := r
    obtain ⟨t', rfl⟩ := r'
    obtain ⟨t'', rfl⟩ := r''
    exact call_range_3 hc (range_it3 I1 h1 h2 q) (Or.inl (PyProof.noPylong_small hc2))
theorem for_range3 {lo c : Int} {n : Nat} {g : TG} {tb : TS} {D : Ends} {σ : L2.St} {H : Hp} (Pv : Nat → L2.St → Hp → Prop) (h0 : Pv 0 σ H)
    (hs : ∀ i σ H, i < n → Pv i σ H → g (.int (lo + (i : Nat) * c)) σ H fun σ2 H2 => tb { D with nx := Pv (i + 1), ct := Pv (i + 1), bk := D.nx } σ2 H2) (hd : ∀ σ H, Pv n σ H → D.nx σ H) :
    ∃ W : Nat → Nat → L2.St → Hp → Prop, (∃ m, W 0 m σ H) ∧ ∀ i m σ H, W i m σ H →
      ((Itr3 lo c n).stop i H ∧ D.nx σ H) ∨ ((Itr3 lo c n).go i H ∧ ∃ N : L2.St → Hp → Prop, (∀ σ' H', N σ' H' → ∃ m', m' < m ∧ W (i + 1) m' σ' H') ∧ ∀ x H', (Itr3 lo c n).yld i H x H' → g x σ H' fun σ2 H2 => tb { D with nx := N, ct := N, bk := D.nx } σ2 H2) := by
  refine ⟨fun i m σ H => m = n - i ∧ i ≤ n ∧ Pv i σ H, ⟨n, by simp, Nat.zero_le _, h0⟩, ?_⟩
  rintro i m σ H ⟨rfl, hi, p⟩
  rcases Nat.lt_or_ge i n with hlt | hge
  · refine .inr ⟨hlt, Pv (i + 1), fun σ' H' p' => ⟨n - (i + 1), by omega, rfl, hlt, p'⟩, ?_⟩
    rintro x H' ⟨rfl, rfl⟩
    exact hs i σ _ hlt p
  · have e : i = n := by omega
    subst e
    exact .inl ⟨Nat.le_refl _, hd σ H p⟩
end
end L3

namespace K10
open PySem PySem.Spec PyProof.Rows L2 L3 Vm
def top (i : Nat) : Stmt := PySem.Challenge.pw_vellum_k10_whole_slips_lead_to_the_copy.main.body.getD i (.Pass ⟨0, 0, 0, 0⟩)
abbrev sHas : Stmt := top 8
abbrev sIsW : Stmt := top 9
abbrev sLooks : Stmt := top 10
abbrev sWr : Stmt := top 11
abbrev sNum : Stmt := top 12
abbrev sSkF : Stmt := top 16
abbrev sFits : Stmt := top 17
abbrev sWd : Stmt := top 18
abbrev sWw : Stmt := top 19
abbrev sAfter : Stmt := top 20
abbrev sWalk : Stmt := top 21
abbrev sCopy : Stmt := top 22
abbrev sPrice : Stmt := top 23
abbrev sCost : Stmt := top 24
abbrev sKW : Stmt := top 29
abbrev sSW : Stmt := top 30
abbrev sWrt : Stmt := top 31
abbrev sCnt : Stmt := top 32
abbrev sPair : Stmt := top 33
abbrev sItem : Stmt := top 34
abbrev sRd : Stmt := top 35
abbrev sCell : Stmt := top 37
abbrev sWord : Stmt := top 38
abbrev sOther : Stmt := top 39
abbrev sRow : Stmt := top 40
abbrev sWhole : Stmt := top 41
abbrev sLAfter : Stmt := top 42
abbrev sStep : Stmt := top 43
abbrev sSteps : Stmt := top 44
abbrev sLAlk : Stmt := top 45
abbrev sLPrice : Stmt := top 46
abbrev sLWalk : Stmt := top 47
abbrev sLaw : Stmt := top 48
section
variable {P : Program} {w : World} {K : PySem.W.Frag} {mg : Str → Option Value} {base : Heap}
/-- a def of the text, as the others call it -/
structure Dfn (K : PySem.W.Frag) (mg : Str → Option Value) (x : Str) (st : Stmt) (f : Addr) (fd : FuncData) (ps : List Str) : Prop where
  fn : Fun K x x st f fd
  at_ : mg x = some (.ref f)
  bn : Binds K fd ps []
/-! ### a word by a cell -/
def spWord : Sp := fun vs H Q _ => ∃ c : Int, vs = [.int c] ∧ ∀ z, Good z → Q (.str z) H
theorem scWord : FnScope ["cell", "rest", "letters", "k"] ["cell"] (defScope sWord) := ⟨rfl, rfl, rfl, by decide +kernel, rfl, by decide +kernel, by decide +kernel⟩
theorem letter_at (r : Int) : ∃ c, atI (letters.cps.toList) (r % 26) = some c ∧ Al c := by
  have h0 : 0 ≤ r % 26 := Int.emod_nonneg _ (by decide)
  have h1 : r % 26 < 26 := Int.emod_lt_of_pos _ (by decide)
  have e : r % 26 = ((r % 26).toNat : Int) := by omega
  refine ⟨97 + (r % 26).toNat, ?_, al_mod _ (by omega)⟩
  rw [e]
  refine atI_nat ?_
  rw [letters_cps, List.getElem?_map, List.getElem?_range (by omega)]
  rfl
theorem join_signs (cs : List Nat) : Txt.join (Str.ofString "") (cs.map fun c => (⟨#[c]⟩ : Str)) = ⟨cs.toArray⟩ := by
  show Builtin.Str.glued _ _ = _
  unfold Builtin.Str.glued
  have h0 : (Str.ofString "").cps = #[] := by decide +kernel
  have go : ∀ (l : List Nat) (acc : Array Nat), (l.map fun c => (⟨#[c]⟩ : Str)).foldl (fun acc p => acc ++ (Str.ofString "").cps ++ p.cps) acc = acc ++ l.toArray := by
    intro l
    induction l with
    | nil => intro acc; simp
    | cons c r ih =>
      intro acc
      rw [List.map_cons, List.foldl_cons, ih, h0]
      apply Array.toList_inj.mp
      simp
  cases cs with
  | nil => show Str.mk _ = _; simp [Str.empty]
  | cons c r =>
    show Str.mk _ = _
    rw [List.map_cons, List.drop_one, List.tail_cons, go]
    congr 1
    apply Array.toList_inj.mp
    simp
theorem ok_word {f : Addr} {fd : FuncData} (F : Fun K "_law_word" "_law_word" sWord f fd) (mrange : mg "range" = none) : FnOk P w K mg base CX0 1 f fd ["cell"] spWord := by
  refine Fun.okR F scWord (fun vs H Q E h => ?_) (fun cdv A outer s H vs Q Q2 E hr h hq => ?_)
  · obtain ⟨c, rfl, _⟩ := h
    rfl
  · obtain ⟨c, rfl, q⟩ := h
    refine ⟨_, pss_cons (ps_set (i := 1) scWord.nd rfl (Or.inl rfl) (pe_op op_fdiv (pv 0) pe_int))
      (pss_cons (ps_set (i := 2) scWord.nd rfl (Or.inl rfl) (pe_lst pa_nil))
      (pss_cons (ps_for PassesOwn.never rfl (pi_range1 (by rfl) mrange (pa_cons (pe_op op_add pe_int (pe_op op_mod (pv 0) pe_int)) pa_nil)) (pg_name (i := 3) scWord.nd rfl (Or.inl rfl))
        (pss_cons (ps_expr (pe_bm PySem.F.plainAttrs_list PySem.F.slot_list_append PySem.F.type_list_append mt_append (pv 2) (pa_cons (pe_ix ix_str pe_str (pe_op op_mod (pv 1) pe_int) (fun _ _ => rfl)) pa_nil)))
        (pss_one (ps_set (i := 1) scWord.nd rfl (Or.inl rfl) (pe_op op_fdiv (pv 1) pe_int)))))
      (pss_one (ps_ret (pe_bm PySem.F.plainAttrs_str PySem.F.slot_str_join PySem.F.type_str_join mt_join pe_str (pa_cons (pv 2) pa_nil)))))), ?_⟩
    refine ⟨_, rfl, _, _, rfl, rfl, ⟨by decide, by decide⟩, ?_⟩
    refine ⟨Nat.zero_le _, fun l hl => ?_⟩
    have m0 : 0 ≤ c % 12 := Int.emod_nonneg _ (by decide)
    have m1 : c % 12 < 12 := Int.emod_lt_of_pos _ (by decide)
    refine ⟨_, rfl, _, _, rfl, rfl, (by show (0 : Int) < 12; decide), _, _, rfl, rfl, _, rfl, (by omega), (by omega), ?_⟩
    refine for_range (fun i σ H2 => ∃ (r : Int) (cs : List Nat) (v : Option V), σ = [some (.int c), some (.int r), some (.ref l), v] ∧ H2 = upd H l (.lst (cs.map fun c => .str ⟨#[c]⟩)) ∧ cs.length = i ∧ ∀ c ∈ cs, Al c)
      ⟨_, [], none, rfl, rfl, rfl, fun _ z => nomatch z⟩ ?_ ?_
    · rintro i σ H2 hi ⟨r, cs, v, rfl, rfl, hcs, hal⟩
      obtain ⟨d, hd, ad⟩ := letter_at r
      refine ⟨_, rfl, .inl ⟨rfl, _, SqL.of upd_same⟩, _, rfl, _, _, rfl, rfl, (by show (0 : Int) < 26; decide), letters, _, d, rfl, rfl, (by decide +kernel), hd, l, _, _, rfl, rfl, upd_same, (by rw [List.length_map]; exact fewer (by omega)), ?_⟩
      refine ⟨_, rfl, _, _, rfl, rfl, ⟨by decide, by decide⟩, ?_⟩
      refine ⟨_, cs ++ [d], _, rfl, ?_, by rw [List.length_append, hcs]; rfl, fun c hc => ?_⟩
      · rw [upd_upd, List.map_append]; rfl
      · rcases List.mem_append.mp hc with z | z
        · exact hal c z
        · rw [List.mem_singleton.mp z]; exact ad
    · rintro σ H2 ⟨r, cs, v, rfl, rfl, hcs, hal⟩
      have ws : cs.map (fun c => V.str ⟨#[c]⟩) = (cs.map fun c => (⟨#[c]⟩ : Str)).map V.str := by rw [List.map_map]; rfl
      refine ⟨rfl, _, rfl, _, l, cs.map fun c => (⟨#[c]⟩ : Str), rfl, rfl, .inl (SqL.of (by rw [upd_same, ws])), ?_, ?_⟩
      · have e1 : (cs.map fun c => (⟨#[c]⟩ : Str)).map (·.length) = cs.map fun _ => 1 := by rw [List.map_map]; rfl
        have e2 : (cs.map fun _ => 1).sum = cs.length := by
          clear hcs hal ws e1
          induction cs with
          | nil => rfl
          | cons _ r ih => rw [List.map_cons, List.sum_cons, ih, List.length_cons]; omega
        have e3 : (Str.ofString "").length = 0 := by decide +kernel
        rw [e1, e2]
        show cs.length + _ * (Str.ofString "").length ≤ _
        rw [e3]; omega
      · refine hq _ _ (Rst.same (same_upd hl) (q _ ?_))
        show Good (Txt.join (Str.ofString "") _)
        rw [join_signs]
        exact good_mk (by omega) (by omega) hal
/-! ### a word with one letter turned -/
def spOther : Sp := fun vs H Q _ => ∃ (z : Str) (p n : Int), vs = [.str z, .int p, .int n] ∧ Good z ∧ ∀ y, Good y → Q (.str y) H
theorem scOther : FnScope ["word", "place", "step", "at", "letters", "sign"] ["word", "place", "step"] (defScope sOther) := ⟨rfl, rfl, rfl, by decide +kernel, rfl, by decide +kernel, by decide +kernel⟩
theorem find_letter {c : Nat} (h : Al c) : 0 ≤ Txt.find letters ⟨#[c]⟩ := by
  have e : (!(Builtin.Str.occurrences letters ⟨#[c]⟩ 0 letters.length 1).isEmpty) = true := by
    rw [PySem.StrLaws.found_one]; exact decide_eq_true (mem_letters.mpr h)
  unfold Txt.find
  cases ho : Builtin.Str.occurrences letters ⟨#[c]⟩ 0 letters.length 1 with
  | nil => rw [ho] at e; cases e
  | cons i r => exact Int.natCast_nonneg i
theorem ok_other {f : Addr} {fd : FuncData} (F : Fun K "_law_other" "_law_other" sOther f fd) (mlen : mg "len" = none) : FnOk P w K mg base CX0 1 f fd ["word", "place", "step"] spOther := by
  refine Fun.okR F scOther (fun vs H Q E h => ?_) (fun cdv A outer s H vs Q Q2 E hr h hq => ?_)
  · obtain ⟨z, p, n, rfl, _⟩ := h
    rfl
  · obtain ⟨z, p, n, rfl, g, q⟩ := h
    refine ⟨_, pss_cons (ps_set (i := 3) scOther.nd rfl (Or.inl rfl) (pe_op op_mod (pv 1) (pe_callB call_len_str (by rfl) mlen PySem.boot_len (pa_cons (pv 0) pa_nil))))
      (pss_cons (ps_set (i := 4) scOther.nd rfl (Or.inl rfl) pe_str)
      (pss_cons (ps_set (i := 5) scOther.nd rfl (Or.inl rfl) (pe_ix ix_str (pv 4) (pe_op op_mod (pe_op op_add (pe_op op_add (pe_bm PySem.F.plainAttrs_str PySem.F.slot_str_index PySem.F.type_str_index (mt_index rfl) (pv 4) (pa_cons (pe_ix ix_str (pv 0) (pv 3) (fun _ _ => rfl)) pa_nil)) pe_int) (pe_op op_mod (pv 2) pe_int)) pe_int) (fun _ _ => rfl)))
      (pss_one (ps_ret (pe_op op_add_str (pe_op op_add_str (pe_slice sl_str (pv 0) po_none (po_some (pv 3))) (pv 5)) (pe_slice sl_str (pv 0) (po_some (pe_op op_add (pv 3) pe_int)) po_none)))))), ?_⟩
    have hl := g.lo
    have hh := g.hi
    have p0 : 0 ≤ p % (z.length : Int) := Int.emod_nonneg _ (by omega)
    have p1 : p % (z.length : Int) < (z.length : Int) := Int.emod_lt_of_pos _ (by omega)
    obtain ⟨j, hj⟩ : ∃ j : Nat, p % (z.length : Int) = (j : Int) := ⟨(p % (z.length : Int)).toNat, by omega⟩
    have hjl : j < z.cps.toList.length := by rw [clen]; omega
    have ej : z.cps.toList[j]? = some z.cps.toList[j] := List.getElem?_eq_getElem hjl
    have aj : Al z.cps.toList[j] := g.al _ (List.getElem_mem hjl)
    have ea : atI z.cps.toList (p % (z.length : Int)) = some z.cps.toList[j] := by rw [hj]; exact atI_nat ej
    obtain ⟨d, hd, ad⟩ := letter_at (Txt.find letters ⟨#[z.cps.toList[j]]⟩ + 1 + n % 25)
    have c1 : cutL z.cps.toList none (some (p % (z.length : Int))) = z.cps.toList.take j := by rw [hj]; exact cutL_take _ j
    have c2 : cutL z.cps.toList (some (p % (z.length : Int) + 1)) none = z.cps.toList.drop (j + 1) := by
      rw [hj, show ((j : Int) + 1) = ((j + 1 : Nat) : Int) by omega]; exact cutL_drop _ _
    have hz := clen z
    have l1 : (⟨#[d]⟩ : Str).length = 1 := rfl
    have s1 : (⟨(cutL z.cps.toList none (some (p % (z.length : Int)))).toArray⟩ : Str).length + (⟨#[d]⟩ : Str).length ≤ sizeLine := by
      rw [c1, l1, mk_len, List.length_take]
      exact few (by omega)
    have s2 : ((⟨(cutL z.cps.toList none (some (p % (z.length : Int)))).toArray⟩ : Str) ++ (⟨#[d]⟩ : Str)).length + (⟨(cutL z.cps.toList (some (p % (z.length : Int) + 1)) none).toArray⟩ : Str).length ≤ sizeLine := by
      rw [app_len, c1, c2, l1, mk_len, mk_len, List.length_take, List.length_drop]
      exact few (by omega)
    have s3 : Good (((⟨(cutL z.cps.toList none (some (p % (z.length : Int)))).toArray⟩ : Str) ++ (⟨#[d]⟩ : Str)) ++ (⟨(cutL z.cps.toList (some (p % (z.length : Int) + 1)) none).toArray⟩ : Str)) := by
      rw [c1, c2]
      refine ⟨?_, ?_, fun c hc => ?_⟩
      · rw [app_len, app_len, l1]
        omega
      · rw [app_len, app_len, l1, mk_len, mk_len, List.length_take, List.length_drop]
        omega
      · rw [app_list, app_list, mk_list, mk_list] at hc
        rcases List.mem_append.mp hc with hc | hc
        · rcases List.mem_append.mp hc with hc | hc
          · exact g.al c (List.mem_of_mem_take hc)
          · have e : c = d := by simpa using hc
            rw [e]; exact ad
        · exact g.al c (List.mem_of_mem_drop hc)
    -- at, letters, sign
    refine ⟨_, rfl, _, rfl, z, rfl, g.small, _, _, rfl, rfl, (by show (0 : Int) < (z.length : Int); omega), ?_⟩
    refine ⟨_, rfl, _, rfl, rfl, _, rfl, _, rfl, z, _, z.cps.toList[j], rfl, rfl, g.small, ea, letters, _, rfl, rfl, find_letter aj, _, _, rfl, rfl, _, rfl, _, _, rfl, rfl, (by show (0 : Int) < 25; decide), _, _, rfl, rfl, _, _, rfl, rfl, (by show (0 : Int) < 26; decide), letters, _, d, rfl, rfl, (by decide +kernel), hd, ?_⟩
    exact ⟨_, rfl, _, rfl, _, rfl, z, rfl, g.small, _, rfl, _, _, rfl, rfl, s1, _, rfl, _, rfl, _, _, rfl, rfl, _, rfl, z, rfl, g.small, _, _, rfl, rfl, s2, hq _ _ (Rst.same (Same.refl H) (q _ s3))⟩
/-! ### a row by cells -/
def spRow (K : PySem.W.Frag) : Sp := fun vs H Q _ => ∃ (a : Addr) (ns : List Int), vs = [.ref a] ∧ SqL K H a (ns.map V.int) ∧ ns.length ≤ 1000 ∧
  ∀ (p : Addr) (ws : List Str), H p = none → ws.length = ns.length → (∀ z ∈ ws, Good z) → Q (.ref p) (upd H p (.lst (ws.map V.str)))
theorem scRow : FnScope ["cells", "row", "cell", "way", "word"] ["cells"] (defScope sRow) := ⟨rfl, rfl, rfl, by decide +kernel, rfl, by decide +kernel, by decide +kernel⟩
theorem int_at {ns : List Int} {i : Nat} {y : V} (hi : (ns.map V.int)[i]? = some y) : ∃ z, ns[i]? = some z ∧ y = V.int z ∧ i < ns.length := by
  rw [List.getElem?_map] at hi
  cases e : ns[i]? with
  | none => rw [e] at hi; cases hi
  | some z =>
    rw [e] at hi
    exact ⟨z, rfl, (Option.some.inj hi).symm, (List.getElem?_eq_some_iff.mp e).1⟩
theorem word_last {ws : List Str} (h : 0 < ws.length) : ∃ z ∈ ws, atI (ws.map V.str) (-1) = some (V.str z) := by
  obtain ⟨r, z, rfl⟩ : ∃ r z, ws = r ++ [z] := ⟨ws.dropLast, ws.getLast (by intro e; rw [e] at h; exact absurd h (by decide)), (List.dropLast_concat_getLast _).symm⟩
  refine ⟨z, by simp, ?_⟩
  rw [List.map_append]
  exact atI_last _ _
theorem word_at {ws : List Str} {n : Int} (h : 0 < ws.length) : ∃ z ∈ ws, atI (ws.map V.str) (n % (ws.length : Int)) = some (V.str z) := by
  have h0 : 0 ≤ n % (ws.length : Int) := Int.emod_nonneg _ (by omega)
  have h1 : n % (ws.length : Int) < ws.length := Int.emod_lt_of_pos _ (by omega)
  obtain ⟨j, hj⟩ : ∃ j : Nat, n % (ws.length : Int) = (j : Int) := ⟨(n % (ws.length : Int)).toNat, by omega⟩
  have hl : j < ws.length := by omega
  refine ⟨ws[j], List.getElem_mem hl, ?_⟩
  rw [hj]
  refine atI_nat ?_
  rw [List.getElem?_map, List.getElem?_eq_getElem hl]
  rfl
theorem ok_row {f g1 g2 : Addr} {fd gd1 gd2 : FuncData} (F : Fun K "_law_row" "_law_row" sRow f fd) (D1 : Dfn K mg "_law_word" sWord g1 gd1 ["cell"]) (D2 : Dfn K mg "_law_other" sOther g2 gd2 ["word", "place", "step"])
    (mlen : mg "len" = none) (mrange : mg "range" = none) : FnOk P w K mg base CX0 2 f fd ["cells"] (spRow K) := by
  have G1 : FnOk P w K mg base CX0 1 g1 gd1 ["cell"] spWord := ok_word D1.fn mrange
  have G2 : FnOk P w K mg base CX0 1 g2 gd2 ["word", "place", "step"] spOther := ok_other D2.fn mlen
  refine Fun.okR F scRow (fun vs H Q E h => ?_) (fun cdv A outer s H vs Q Q2 E hr h hq => ?_)
  · obtain ⟨a, ns, rfl, _⟩ := h
    rfl
  · obtain ⟨a, ns, rfl, hS, hn, q⟩ := h
    refine ⟨_, pss_cons (ps_set (i := 1) scRow.nd rfl (Or.inl rfl) (pe_lst pa_nil))
      (pss_cons (ps_for PassesOwn.never rfl (pi_list (pv 0)) (pg_name (i := 2) scRow.nd rfl (Or.inl rfl))
        (pss_cons (ps_set (i := 3) scRow.nd rfl (Or.inl rfl) (pe_op op_mod (pv 2) pe_int))
        (pss_cons (ps_set (i := 4) scRow.nd rfl (Or.inl rfl) (pe_call G1 hr (by rfl) D1.at_ D1.fn.kp D1.bn .nil pass0 (pa_cons (pe_op op_fdiv (pv 2) pe_int) pa_nil)))
        (pss_cons (ps_mid (ps_if (pw_and (pt_cmpR op_eq (pv 3) pe_int (nomark _)) (pw_and1 (pt_cmpR op_gt (pe_callB call_len_seq (by rfl) mlen PySem.boot_len (pa_cons (pv 1) pa_nil)) pe_int (nomark _)))).pt
          (pss_one (ps_set (i := 4) scRow.nd rfl (Or.inl rfl) (pe_ix ix_list (pv 1) (pe_un un_neg pe_int) (fun _ _ => rfl)))) pss_nil))
        (pss_cons (ps_mid (ps_if (pw_and (pt_cmpR op_eq (pv 3) pe_int (nomark _)) (pw_and1 (pt_cmpR op_gt (pe_callB call_len_seq (by rfl) mlen PySem.boot_len (pa_cons (pv 1) pa_nil)) pe_int (nomark _)))).pt
          (pss_one (ps_set (i := 4) scRow.nd rfl (Or.inl rfl) (pe_call G2 hr (by rfl) D2.at_ D2.fn.kp D2.bn .nil pass0 (pa_cons (pe_ix ix_list (pv 1) (pe_un un_neg pe_int) (fun _ _ => rfl)) (pa_cons (pe_op op_fdiv (pv 2) pe_int) (pa_cons (pe_op op_fdiv (pv 2) pe_int) pa_nil)))))) pss_nil))
        (pss_cons (ps_mid (ps_if (pw_and (pt_cmpR op_eq (pv 3) pe_int (nomark _)) (pw_and1 (pt_cmpR op_gt (pe_callB call_len_seq (by rfl) mlen PySem.boot_len (pa_cons (pv 1) pa_nil)) pe_int (nomark _)))).pt
          (pss_one (ps_set (i := 4) scRow.nd rfl (Or.inl rfl) (pe_ix ix_list (pv 1) (pe_op op_mod (pe_op op_fdiv (pv 2) pe_int) (pe_callB call_len_seq (by rfl) mlen PySem.boot_len (pa_cons (pv 1) pa_nil))) (fun _ _ => rfl)))) pss_nil))
        (pss_one (ps_expr (pe_bm PySem.F.plainAttrs_list PySem.F.slot_list_append PySem.F.type_list_append mt_append (pv 1) (pa_cons (pv 4) pa_nil))))))))))
      (pss_one (ps_ret (pv 1)))), ?_⟩
    refine ⟨Nat.zero_le _, fun l hl => ?_⟩
    refine ⟨_, rfl, a, rfl, ⟨_, (same_upd hl).seq hS⟩, for_list (K := K) (a := a) (xs := ns.map V.int) (fun i σ H2 => ∃ (ws : List Str) (v1 v2 v3 : Option V), σ = [some (.ref a), some (.ref l), v1, v2, v3] ∧ H2 = upd H l (.lst (ws.map V.str)) ∧ ws.length = i ∧ ∀ z ∈ ws, Good z)
      ⟨[], none, none, none, rfl, rfl, rfl, fun _ z => nomatch z⟩ (fun i σ H2 _ ⟨_, _, _, _, _, e, _⟩ => by rw [e]; exact (same_upd hl).seq hS) ?_ ?_⟩
    · rintro i y σ H2 hi ⟨ws, v1, v2, v3, rfl, rfl, hws, hg⟩
      obtain ⟨n, _, rfl, hil⟩ := int_at hi
      -- way, word
      refine ⟨_, rfl, _, _, rfl, rfl, (by show (0 : Int) < 5; decide), ?_⟩
      refine ⟨_, rfl, _, _, rfl, rfl, ⟨by decide, by decide⟩, _, rfl, fun z0 hz0 => ?_⟩
      have hL : SqL K (upd H l (.lst (ws.map V.str))) l (ws.map V.str) := SqL.of upd_same
      have hlen : (ws.map V.str).length = ws.length := List.length_map ..
      -- what each if leaves: some good word
      refine ⟨fun σ' H' => ∃ z, Good z ∧ σ' = [some (.ref a), some (.ref l), some (.int n), some (.int (n % 5)), some (.str z)] ∧ H' = upd H l (.lst (ws.map V.str)), ?_, ?_⟩
      · refine ⟨_, rfl, rfl, _, rfl, ?_⟩
        refine ite2 (fun _ => ?_) (fun _ => iteF ⟨z0, hz0, rfl, rfl⟩)
        refine ⟨_, rfl, l, _, rfl, .inl hL, _, _, rfl, rfl, _, rfl, ?_⟩
        refine ite2 (fun h => ?_) (fun _ => ⟨z0, hz0, rfl, rfl⟩)
        obtain ⟨z, hz, e⟩ := word_last (ws := ws) (by have := of_decide_eq_true h; rw [hlen] at this; omega)
        exact ⟨_, rfl, _, rfl, l, _, _, _, rfl, rfl, hL, e, z, hg z hz, rfl, rfl⟩
      · rintro σ' H' ⟨z1, hz1, rfl, rfl⟩
        refine ⟨fun σ' H' => ∃ z, Good z ∧ σ' = [some (.ref a), some (.ref l), some (.int n), some (.int (n % 5)), some (.str z)] ∧ H' = upd H l (.lst (ws.map V.str)), ?_, ?_⟩
        · refine ⟨_, rfl, rfl, _, rfl, ?_⟩
          refine ite2 (fun _ => ?_) (fun _ => iteF ⟨z1, hz1, rfl, rfl⟩)
          refine ⟨_, rfl, l, _, rfl, .inl hL, _, _, rfl, rfl, _, rfl, ?_⟩
          refine ite2 (fun h => ?_) (fun _ => ⟨z1, hz1, rfl, rfl⟩)
          obtain ⟨z, hz, e⟩ := word_last (ws := ws) (by have := of_decide_eq_true h; rw [hlen] at this; omega)
          refine ⟨_, rfl, _, rfl, l, _, _, _, rfl, rfl, hL, e, _, rfl, _, _, rfl, rfl, ⟨by decide, by decide⟩, _, rfl, _, _, rfl, rfl, ⟨by decide, by decide⟩, z, _, _, rfl, hg z hz, fun z2 hz2 => ⟨z2, hz2, rfl, rfl⟩⟩
        · rintro σ' H' ⟨z2, hz2, rfl, rfl⟩
          refine ⟨fun σ' H' => ∃ z, Good z ∧ σ' = [some (.ref a), some (.ref l), some (.int n), some (.int (n % 5)), some (.str z)] ∧ H' = upd H l (.lst (ws.map V.str)), ?_, ?_⟩
          · refine ⟨_, rfl, rfl, _, rfl, ?_⟩
            refine ite2 (fun _ => ?_) (fun _ => iteF ⟨z2, hz2, rfl, rfl⟩)
            refine ⟨_, rfl, l, _, rfl, .inl hL, _, _, rfl, rfl, _, rfl, ?_⟩
            refine ite2 (fun h => ?_) (fun _ => ⟨z2, hz2, rfl, rfl⟩)
            have hp : 0 < ws.length := by have := of_decide_eq_true h; rw [hlen] at this; omega
            obtain ⟨z, hz, e⟩ := word_at (ws := ws) (n := n / 5) hp
            rw [← hlen] at e
            exact ⟨_, rfl, _, rfl, _, _, rfl, rfl, ⟨by decide, by decide⟩, _, rfl, l, _, rfl, .inl hL, _, _, rfl, rfl, (by show (0 : Int) < ((ws.map V.str).length : Int); rw [hlen]; omega), l, _, _, _, rfl, rfl, hL, e, z, hg z hz, rfl, rfl⟩
          · rintro σ' H' ⟨z3, hz3, rfl, rfl⟩
            refine ⟨_, rfl, .inl ⟨rfl, _, hL⟩, _, rfl, l, _, _, rfl, rfl, upd_same, (by rw [hlen]; exact fewer (by omega)), ?_⟩
            refine ⟨ws ++ [z3], _, _, _, rfl, by rw [upd_upd, List.map_append]; rfl, by rw [List.length_append, hws]; rfl, fun z hz => ?_⟩
            rcases List.mem_append.mp hz with hz | hz
            · exact hg z hz
            · rw [List.mem_singleton.mp hz]; exact hz3
    · rintro σ H2 ⟨ws, v1, v2, v3, rfl, rfl, hws, hg⟩
      rw [List.length_map] at hws
      exact ⟨_, rfl, hq _ _ (Rst.one (same_upd hl) hl upd_same trivial (q l ws hl hws hg))⟩
def spAlike : Sp := fun vs H Q _ => ∃ a b : Str, vs = [.str a, .str b] ∧ a.length ≤ sizeLine ∧ b.length ≤ sizeLine ∧ Q (.bl (alikeB a.cps.toList b.cps.toList)) H
/-! ### looks_alike -/
theorem scLooks : FnScope ["one", "two", "unlike"] ["one", "two"] (defScope sLooks) := ⟨rfl, rfl, rfl, by decide +kernel, rfl, by decide +kernel, by decide +kernel⟩
theorem nd_Looks : (["place", "one", "two"] : List Str).Nodup := by decide +kernel
theorem ok_Looks {f : Addr} {fd : FuncData} (F : Fun K "looks_alike" "looks_alike" sLooks f fd) (mlen : mg "len" = none) (mrange : mg "range" = none) : FnOk P w K mg base CX0 1 f fd ["one", "two"] spAlike := by
  refine Fun.okR F scLooks (fun vs H Q E h => ?_) (fun cdv A outer s H vs Q Q2 E hr h hq => ?_)
  · obtain ⟨a, b, rfl, _⟩ := h
    rfl
  · obtain ⟨a, b, rfl, ha, hb, q⟩ := h
    refine ⟨_, pss_cons (ps_if (pt_cmpR op_ne (pe_callB call_len_str (by rfl) mlen PySem.boot_len (pa_cons (pv 0) pa_nil)) (pe_callB call_len_str (by rfl) mlen PySem.boot_len (pa_cons (pv 1) pa_nil)) (nomark _)) (pss_one (ps_ret pe_bl)) pss_nil)
      (pss_cons (ps_setC (i := 2) (Nc := ["place", "one", "two"]) (mp := [none, some 0, some 1]) rfl scLooks.nd rfl rfl (CompOk.of (by rfl)) (pi_range1 (by rfl) mrange (pa_cons (pe_callB call_len_str (by rfl) mlen PySem.boot_len (pa_cons (pv 0) pa_nil)) pa_nil))
        (fun cl C s H fp => ⟨pg_name (i := 0) nd_Looks rfl (Or.inl rfl), pts_one (pt_cmpR op_ne (pe_ix ix_str (pv 1) (pv 0) (fun _ _ => rfl)) (pe_ix ix_str (pv 2) (pv 0) (fun _ _ => rfl)) (nomark _)), pv 0⟩))
      (pss_one (ps_ret (pe_cmpR op_eq (pe_callB call_len_seq (by rfl) mlen PySem.boot_len (pa_cons (pv 2) pa_nil)) pe_int (nomark _))))), ?_⟩
    refine ⟨_, rfl, a, rfl, ha, _, rfl, b, rfl, hb, rfl, _, rfl, ?_⟩
    by_cases hl : a.length = b.length
    · refine iteNS (by rw [hl]) ?_
      refine ⟨_, rfl, a, rfl, ha, (a.length : Int), rfl, (by omega), (by have := szl; omega), ?_⟩
      rw [Int.toNat_natCast]
      refine comp_pure (as := List.range a.length) (v := fun i => .int (0 + (i : Nat))) (fun i => !decide (a.cps.toList[i]? = b.cps.toList[i]?)) (fun i => .int (0 + (i : Nat))) (src_range 0 a.length H) (by rw [List.length_range]; exact ha) (fun i hi k hk => ?_) (fun i hi _ k hk => ?_) (fun D hD => ?_)
      · have hi' := List.mem_range.mp hi
        have ea : a.cps.toList[i]? = some a.cps.toList[i] := List.getElem?_eq_getElem (by rw [clen]; exact hi')
        have eb : b.cps.toList[i]? = some b.cps.toList[i] := List.getElem?_eq_getElem (by rw [clen, ← hl]; exact hi')
        have ei : (0 : Int) + ((i : Nat) : Int) = ((i : Nat) : Int) := by omega
        refine ⟨_, rfl, _, rfl, a, _, a.cps.toList[i], rfl, rfl, ha, (by rw [ei]; exact atI_nat ea), _, rfl, _, rfl, b, _, b.cps.toList[i], rfl, rfl, hb, (by rw [ei]; exact atI_nat eb), rfl, _, rfl, ?_⟩
        have e : (!decide (V.str ⟨#[a.cps.toList[i]]⟩ = V.str ⟨#[b.cps.toList[i]]⟩)) = (!decide (a.cps.toList[i]? = b.cps.toList[i]?)) := by
          rw [ea, eb]
          congr 1
          exact decide_eq_decide.mpr ⟨fun z => by injection z with z; injection z with z; simpa using z, fun z => by rw [Option.some.inj z]⟩
        rw [e]; exact hk
      · exact ⟨_, rfl, hk⟩
      · refine ⟨_, rfl, D, _, rfl, .inl (SqL.of upd_same), rfl, hq _ _ (Rst.same (same_upd hD) ?_)⟩
        rw [List.length_map]
        have e : decide (V.int (((List.range a.length).filter fun i => !decide (a.cps.toList[i]? = b.cps.toList[i]?)).length : Nat) = V.int 1) = alikeB a.cps.toList b.cps.toList := by
          unfold alikeB placesB
          rw [if_pos (by rw [clen, clen]; exact hl), clen]
          exact decide_eq_decide.mpr ⟨fun z => by injection z with z; omega, fun z => by rw [z]; rfl⟩
        rw [e]; exact q
    · refine ite2 (fun _ => ?_) (fun h => ?_)
      · refine hq _ _ (Rst.same (Same.refl H) ?_)
        have e : alikeB a.cps.toList b.cps.toList = false := by
          unfold alikeB
          rw [if_neg (by rw [clen, clen]; exact hl)]
        rw [← e]; exact q
      · exfalso
        refine h ?_
        rw [decide_eq_false (fun z => hl (by injection z with z; omega))]; rfl
theorem kit_same (v : Value) : PySem.W.kitOne K v v = some true := by
  unfold PySem.W.kitOne
  rw [if_pos (beq_self_eq_true _)]
/-! ### a cell -/
def cellD (ns : List Int) (k : Int) : Int := (ns[k.toNat]?).getD 0
def spCell (K : PySem.W.Frag) : Sp := fun vs H Q _ => ∃ (a : Addr) (ns : List Int) (k : Int), vs = [.ref a, .int k] ∧ SqL K H a (ns.map V.int) ∧ 0 ≤ k ∧ Q (.int (cellD ns k)) H
theorem scCell : FnScope ["script", "k"] ["script", "k"] (defScope sCell) := ⟨rfl, rfl, rfl, by decide +kernel, rfl, by decide +kernel, by decide +kernel⟩
theorem ok_cell {f : Addr} {fd : FuncData} (F : Fun K "_law_cell" "_law_cell" sCell f fd) (mlen : mg "len" = none) : FnOk P w K mg base CX0 1 f fd ["script", "k"] (spCell K) := by
  refine Fun.okR F scCell (fun vs H Q E h => ?_) (fun cdv A outer s H vs Q Q2 E hr h hq => ?_)
  · obtain ⟨a, ns, k, rfl, _⟩ := h
    rfl
  · obtain ⟨a, ns, k, rfl, hS, h0, q⟩ := h
    refine ⟨_, pss_cons (ps_if (pt_cmpR op_lt (pv 1) (pe_callB call_len_seq (by rfl) mlen PySem.boot_len (pa_cons (pv 0) pa_nil)) (nomark _)) (pss_one (ps_ret (pe_ix ix_list (pv 0) (pv 1) (fun _ _ => rfl)))) pss_nil)
      (pss_one (ps_ret pe_int)), ?_⟩
    refine ⟨_, rfl, _, rfl, a, _, rfl, .inl hS, _, _, rfl, rfl, _, rfl, ?_⟩
    obtain ⟨j, hj⟩ : ∃ j : Nat, k = (j : Int) := ⟨k.toNat, by omega⟩
    subst hj
    refine ite2 (fun h => ?_) (fun h => ?_)
    · have hl := of_decide_eq_true h
      rw [List.length_map] at hl
      have hj' : j < ns.length := by omega
      have e : cellD ns (j : Int) = ns[j] := by unfold cellD; rw [Int.toNat_natCast, List.getElem?_eq_getElem hj']; rfl
      rw [e] at q
      exact ⟨_, rfl, _, rfl, a, _, _, _, rfl, rfl, hS, atI_nat (by rw [List.getElem?_map, List.getElem?_eq_getElem hj']; rfl), hq _ _ (Rst.same (Same.refl H) q)⟩
    · have hl : ¬ ((j : Int) < ((ns.map V.int).length : Int)) := fun c => h (decide_eq_true c)
      rw [List.length_map] at hl
      have e : cellD ns (j : Int) = 0 := by unfold cellD; rw [Int.toNat_natCast, List.getElem?_eq_none (by omega)]; rfl
      rw [e] at q
      exact hq _ _ (Rst.same (Same.refl H) q)
/-! ### has_only -/
def spHas : Sp := fun vs H Q _ => ∃ z y : Str, vs = [.str z, .str y] ∧ z.length ≤ sizeLine ∧ Q (.bl (onlyB z y)) H
theorem scHas : FnScope ["text", "signs"] ["text", "signs"] (defScope sHas) := ⟨rfl, rfl, rfl, by decide +kernel, rfl, by decide +kernel, by decide +kernel⟩
theorem nd_sign : (["sign", "signs"] : List Str).Nodup := by decide +kernel
theorem ok_has {f : Addr} {fd : FuncData} (F : Fun K "has_only" "has_only" sHas f fd) (mall : mg "all" = none) : FnOk P w K mg base CX0 1 f fd ["text", "signs"] spHas := by
  refine Fun.okR F scHas (fun vs H Q E h => ?_) (fun cdv A outer s H vs Q Q2 E hr h hq => ?_)
  · obtain ⟨z, y, rfl, _⟩ := h
    rfl
  · obtain ⟨z, y, rfl, hz, q⟩ := h
    refine ⟨_, pss_one (ps_ret (pe_callB (call_all rfl) (by rfl) mall boot_all (pa_cons (pe_comp (Nc := ["sign", "signs"]) (mp := [none, some 1]) rfl (CompOk.of (by rfl)) (pi_str (pv 0))
      (fun cl C s H fp => ⟨pg_name (i := 0) nd_sign rfl (Or.inl rfl), pts_nil, pe_cmpR op_in_str (pv 0) (pv 1) (by with_unfolding_all rfl)⟩)) pa_nil))), ?_⟩
    refine ⟨_, rfl, z, rfl, comp_map (as := z.cps.toList) (fun c => .bl (decide (c ∈ y.cps.toList))) (src_str z H) (by rw [clen]; exact hz) (fun c hc k hk => ?_) (fun D hD => ?_)⟩
    · refine ⟨_, rfl, _, rfl, _, _, rfl, rfl, ?_⟩
      rw [PySem.StrLaws.found_one]
      exact hk
    · refine ⟨D, z.cps.toList.map fun c => decide (c ∈ y.cps.toList), rfl, SqL.of ?_, ?_⟩
      · rw [upd_same, List.map_map]; rfl
      · refine hq _ _ (Rst.same (same_upd hD) ?_)
        have e : (z.cps.toList.map fun c => decide (c ∈ y.cps.toList)).all id = onlyB z y := by
          unfold onlyB; rw [List.all_map]; rfl
        rw [e]; exact q
/-! ### is_word -/
def spIsW : Sp := fun vs H Q _ => ∃ z : Str, vs = [.str z] ∧ z.length ≤ sizeLine ∧ Q (.bl (wordB z)) H
theorem scIsW : FnScope ["text"] ["text"] (defScope sIsW) := ⟨rfl, rfl, rfl, by decide +kernel, rfl, by decide +kernel, by decide +kernel⟩
theorem ok_isw {f g : Addr} {fd gd : FuncData} (F : Fun K "is_word" "is_word" sIsW f fd) (D : Dfn K mg "has_only" sHas g gd ["text", "signs"]) (mall : mg "all" = none) (mlen : mg "len" = none)
    {tl tm : Tok} (mL : mg "LETTERS" = some (.str letters tl)) (mM : mg "MOST_LETTERS" = some (.int 12 tm)) : FnOk P w K mg base CX0 2 f fd ["text"] spIsW := by
  have G : FnOk P w K mg base CX0 1 g gd ["text", "signs"] spHas := ok_has D.fn mall
  refine Fun.okR F scIsW (fun vs H Q E h => ?_) (fun cdv A outer s H vs Q Q2 E hr h hq => ?_)
  · obtain ⟨z, rfl, _⟩ := h
    rfl
  · obtain ⟨z, rfl, hz, q⟩ := h
    refine ⟨_, pss_one (ps_ret (pe_and (pe_chain op_le op_le pe_int (pe_callB call_len_str (by rfl) mlen PySem.boot_len (pa_cons (pv 0) pa_nil)) (pe_glob (v := .int 12) (by rfl) mM ⟨_, rfl⟩))
      (pe_one (pe_call G hr (by rfl) D.at_ D.fn.kp D.bn .nil pass0 (pa_cons (pv 0) (pa_cons (pe_glob (v := .str letters) (by rfl) mL ⟨_, rfl⟩) pa_nil)))))), ?_⟩
    refine ⟨_, rfl, z, rfl, hz, _, _, rfl, rfl, _, rfl, ?_⟩
    refine ite2 (fun h1 => ?_) (fun h1 => ?_)
    · refine ⟨_, _, rfl, rfl, _, rfl, ?_⟩
      refine ite2 (fun h2 => ?_) (fun h2 => ?_)
      · refine ⟨_, rfl, z, letters, rfl, hz, hq _ _ (Rst.same (Same.refl H) ?_)⟩
        have e : wordB z = onlyB z letters := by
          unfold wordB
          rw [decide_eq_true (show 1 ≤ z.length ∧ z.length ≤ 12 from ⟨by have := of_decide_eq_true h1; omega, by have := of_decide_eq_true h2; omega⟩), Bool.true_and]
        rw [← e]; exact q
      · refine hq _ _ (Rst.same (Same.refl H) ?_)
        have e : wordB z = false := by
          unfold wordB
          rw [decide_eq_false (fun c => h2 (decide_eq_true (by have := c.2; omega))), Bool.false_and]
        rw [← e]; exact q
    · refine ⟨_, rfl, iteF (hq _ _ (Rst.same (Same.refl H) ?_))⟩
      have e : wordB z = false := by
        unfold wordB
        rw [decide_eq_false (fun c => h1 (decide_eq_true (by have := c.1; omega))), Bool.false_and]
      rw [← e]; exact q
/-! ### writes_number, number_of, and the law's own -/
def spWr : Sp := fun vs H Q _ => ∃ z : Str, vs = [.str z] ∧ z.length ≤ sizeLine ∧ Q (.bl (writesB z)) H
theorem scWr : FnScope ["text"] ["text"] (defScope sWr) := ⟨rfl, rfl, rfl, by decide +kernel, rfl, by decide +kernel, by decide +kernel⟩
theorem sign_eq (c d : Nat) : (V.str ⟨#[c]⟩ = V.str ⟨#[d]⟩) ↔ c = d := ⟨fun e => by injection e with e; injection e with e; simpa using e, fun e => by rw [e]⟩
theorem nought_eq : Str.ofString "0" = (⟨#[48]⟩ : Str) := by decide +kernel
theorem ok_wr {f g : Addr} {fd gd : FuncData} (F : Fun K "writes_number" "writes_number" sWr f fd) (D : Dfn K mg "has_only" sHas g gd ["text", "signs"]) (mall : mg "all" = none) {tf : Tok} (mF : mg "FIGURES" = some (.str figures tf)) : FnOk P w K mg base CX0 2 f fd ["text"] spWr := by
  have G : FnOk P w K mg base CX0 1 g gd ["text", "signs"] spHas := ok_has D.fn mall
  refine Fun.okR F scWr (fun vs H Q E h => ?_) (fun cdv A outer s H vs Q Q2 E hr h hq => ?_)
  · obtain ⟨z, rfl, _⟩ := h
    rfl
  · obtain ⟨z, rfl, hz, q⟩ := h
    refine ⟨_, pss_cons (ps_if (pw_or (pt_cmpR op_eq (pv 0) pe_str (nomark _)) (pw_or1 (pt_not (pt_val (pe_call G hr (by rfl) D.at_ D.fn.kp D.bn .nil pass0 (pa_cons (pv 0) (pa_cons (pe_glob (v := .str figures) (by rfl) mF ⟨_, rfl⟩) pa_nil))))))).pt (pss_one (ps_ret pe_bl)) pss_nil)
      (pss_one (ps_ret (pe_or (pe_cmpR op_eq (pv 0) pe_str (nomark _)) (pe_one (pe_cmpR op_ne (pe_ix ix_str (pv 0) pe_int (fun _ _ => rfl)) pe_str (nomark _)))))), ?_⟩
    have go : ∀ b, writesB z = b → Q2 (.bl b) H := fun b e => hq _ _ (Rst.same (Same.refl H) (by rw [← e]; exact q))
    refine ⟨_, rfl, rfl, _, rfl, ?_⟩
    refine ite2 (fun h => ?_) (fun h => ?_)
    · have e := of_decide_eq_true h
      injection e with e
      exact iteT (go _ (by unfold writesB; rw [if_pos e]))
    have hne : ¬ z = Str.ofString "" := fun e => h (decide_eq_true (by rw [e]))
    refine ⟨_, rfl, z, figures, rfl, hz, _, rfl, ?_⟩
    cases ho : onlyB z figures with
    | false => exact iteT (go _ (by unfold writesB; rw [if_neg hne, ho]; rfl))
    | true =>
      refine iteF ⟨_, rfl, rfl, _, rfl, ?_⟩
      have ew : writesB z = (decide (z = Str.ofString "0") || !decide (z.cps.toList[0]? = some 48)) := by unfold writesB; rw [if_neg hne, ho]; rfl
      refine ite2 (fun h0 => ?_) (fun h0 => ?_)
      · have e := of_decide_eq_true h0
        injection e with e
        exact go _ (by rw [ew, decide_eq_true e, Bool.true_or])
      · have e0 : ¬ z = Str.ofString "0" := fun e => h0 (decide_eq_true (by rw [e]))
        have hl : 0 < z.cps.toList.length := List.length_pos_iff.mpr (ne_nil hne)
        refine ⟨_, rfl, z, 0, z.cps.toList[0], rfl, rfl, hz, atI_nat (j := 0) (List.getElem?_eq_getElem hl), rfl, go _ ?_⟩
        rw [ew, decide_eq_false e0, Bool.false_or, List.getElem?_eq_getElem hl]
        congr 1
        refine decide_eq_decide.mpr ?_
        rw [nought_eq, sign_eq]
        exact ⟨fun e => Option.some.inj e, fun e => by rw [e]⟩
def spNum : Sp := fun vs H Q _ => ∃ (z : Str) (most : Int), vs = [.str z, .int most] ∧ z.length ≤ 10000 ∧ 0 ≤ most ∧ most ≤ 10 ^ 30 ∧ Q (optV (pnum z most)) H
theorem scNum : FnScope ["text", "most", "number"] ["text", "most"] (defScope sNum) := ⟨rfl, rfl, rfl, by decide +kernel, rfl, by decide +kernel, by decide +kernel⟩
theorem wr_parts {z : Str} (h : writesB z = true) : z ≠ Str.ofString "" ∧ onlyB z figures = true := by
  unfold writesB at h
  by_cases h0 : z = Str.ofString ""
  · rw [if_pos h0] at h; cases h
  · rw [if_neg h0] at h
    refine ⟨h0, ?_⟩
    by_cases h1 : onlyB z figures = true
    · exact h1
    · rw [if_neg h1] at h; cases h
theorem ok_num {f g gH : Addr} {fd gd dH : FuncData} (F : Fun K "number_of" "number_of" sNum f fd) (D : Dfn K mg "writes_number" sWr g gd ["text"]) (DH : Dfn K mg "has_only" sHas gH dH ["text", "signs"]) (mall : mg "all" = none) (mlen : mg "len" = none) (mstr : mg "str" = none) (mint : mg "int" = none)
    {tf : Tok} (mF : mg "FIGURES" = some (.str figures tf)) : FnOk P w K mg base CX0 3 f fd ["text", "most"] spNum := by
  have G : FnOk P w K mg base CX0 2 g gd ["text"] spWr := ok_wr D.fn DH mall mF
  refine Fun.okR F scNum (fun vs H Q E h => ?_) (fun cdv A outer s H vs Q Q2 E hr h hq => ?_)
  · obtain ⟨z, m, rfl, _⟩ := h
    rfl
  · obtain ⟨z, m, rfl, hz, h0, h1, q⟩ := h
    refine ⟨_, pss_cons (ps_if (pw_or (pt_not (pt_val (pe_call G hr (by rfl) D.at_ D.fn.kp D.bn .nil pass0 (pa_cons (pv 0) pa_nil)))) (pw_or1 (pt_cmpR op_gt (pe_callB call_len_str (by rfl) mlen PySem.boot_len (pa_cons (pv 0) pa_nil)) (pe_callB call_len_str (by rfl) mlen PySem.boot_len (pa_cons (pe_callTy call_str_int (by rfl) mstr boot_str (pa_cons (pv 1) pa_nil)) pa_nil)) (nomark _)))).pt (pss_one (ps_ret pe_non)) pss_nil)
      (pss_cons (ps_set (i := 2) scNum.nd rfl (Or.inl rfl) (pe_callTy call_int_text (by rfl) mint boot_int (pa_cons (pv 0) pa_nil)))
      (pss_one (ps_ret (pe_ifExp (pt_cmpR op_le (pv 2) (pv 1) (nomark _)) (pv 2) pe_non)))), ?_⟩
    have go : ∀ o, pnum z m = o → Q2 (optV o) H := fun b e => hq _ _ (Rst.same (Same.refl H) (by rw [← e]; exact q))
    have hm40 : m < 10 ^ 40 := by omega
    refine ⟨_, rfl, z, rfl, few (by omega), _, rfl, ?_⟩
    cases hw : writesB z with
    | false => exact iteT (iteT (go none (by unfold pnum; rw [hw]; rfl)))
    | true =>
      obtain ⟨hne, ho⟩ := wr_parts hw
      have hnl := numS_len h0 hm40
      refine iteF ⟨_, rfl, z, rfl, few (by omega), _, rfl, m, rfl, log_ok h0 hm40, numS m, rfl, few (by omega), _, _, rfl, rfl, _, rfl, ?_⟩
      refine ite2 (fun h => ?_) (fun h => ?_)
      · have hl := of_decide_eq_true h
        exact go none (pnum_long (most_lt h0) (numS_pos m h0) (by omega))
      · have hl : ¬ (((numS m).length : Int) < (z.length : Int)) := fun c => h (decide_eq_true c)
        refine ⟨_, rfl, z, _, rfl, digits_read ho hne (by omega), by omega, ?_⟩
        refine ⟨_, rfl, _, rfl, _, _, rfl, rfl, _, rfl, ?_⟩
        refine ite2 (fun h2 => ?_) (fun h2 => ?_)
        · exact ⟨_, rfl, go (some _) (by unfold pnum; rw [hw, if_pos rfl, if_pos (of_decide_eq_true h2)])⟩
        · exact go none (by unfold pnum; rw [hw, if_pos rfl, if_neg fun c => h2 (decide_eq_true c)])
/-! ### slips written -/
def spKW : Sp := fun vs H Q _ => ∃ n : Nat, vs = [.int (n : Nat)] ∧ n ≤ 1000 ∧ ∀ l, H l = none → Q (.ref l) (upd H l (.lst ((kw n).map V.str)))
theorem scKW : FnScope ["many"] ["many"] (defScope sKW) := ⟨rfl, rfl, rfl, by decide +kernel, rfl, by decide +kernel, by decide +kernel⟩
theorem ok_kw {f : Addr} {fd : FuncData} (F : Fun K "keeps_written" "keeps_written" sKW f fd) (mstr : mg "str" = none) : FnOk P w K mg base CX0 1 f fd ["many"] spKW := by
  refine F.ok scKW (fun vs H Q E h => ?_) (fun cdv A outer s H vs Q E hr h => ?_)
  · obtain ⟨n, rfl, _⟩ := h
    rfl
  · obtain ⟨n, rfl, hn, q⟩ := h
    refine ⟨_, pss_one (ps_ret (pe_ifExp (pt_cmpR op_gt (pv 0) pe_int (nomark _)) (pe_lst (pa_cons (pe_callTy call_str_int (by rfl) mstr boot_str (pa_cons (pv 0) pa_nil)) pa_nil)) (pe_lst pa_nil))), ?_⟩
    refine ⟨_, rfl, _, _, rfl, rfl, _, rfl, ?_⟩
    refine ite2 (fun h => ?_) (fun h => ?_)
    · have h0 := of_decide_eq_true h
      refine ⟨_, rfl, ((n : Nat) : Int), rfl, log_ok (by omega) (by omega), few (by show 1 ≤ _; omega), fun l hl => ?_⟩
      have e : kw n = [numS (n : Int)] := by unfold kw; rw [if_neg (by omega)]
      have := q l hl
      rw [e] at this
      exact this
    · have h0 : ¬ ((0 : Int) < (n : Int)) := fun c => h (decide_eq_true c)
      have e : kw n = [] := by unfold kw; rw [if_pos (by omega)]
      refine ⟨Nat.zero_le _, fun l hl => ?_⟩
      have := q l hl
      rw [e] at this
      exact this
def spSW (K : PySem.W.Frag) : Sp := fun vs H Q _ => ∃ (t : Addr) (st : Sk), vs = [.ref t] ∧ SqT K H t (stepV st) ∧ okS st ∧ Q (.str (itemS st)) H
theorem scSW : FnScope ["step"] ["step"] (defScope sSW) := ⟨rfl, rfl, rfl, by decide +kernel, rfl, by decide +kernel, by decide +kernel⟩
theorem nd_part : (["part"] : List Str).Nodup := by decide +kernel
theorem parts_sum {st : Sk} (h : okS st) : ((partsS st).map (·.length)).sum + (partsS st).length * (Str.ofString " ").length ≤ 16777216 := by
  have e1 : (Str.ofString " ").length = 1 := by decide +kernel
  have e2 : (partsS st).length ≤ 2 := by unfold partsS; rw [List.length_map]; cases st <;> simp [stepV]
  have e3 : ∀ z ∈ partsS st, z.length ≤ 60 := by
    intro z hz
    unfold partsS at hz
    obtain ⟨x, hx, rfl⟩ := List.mem_map.mp hz
    have k : ∀ k ∈ kinds, k.length ≤ 60 := fun k hk => by have := (kinds_facts k hk).1; omega
    cases st with
    | skip m =>
      rcases List.mem_cons.mp hx with e | hx
      · rw [e]; exact k _ (by simp [kinds, textV])
      · rw [List.mem_singleton.mp hx]
        have := numS_len (n := ((m : Nat) : Int)) (by omega) (by have := h.2; omega)
        show (numS _).length ≤ 60
        omega
    | turn y =>
      rcases List.mem_cons.mp hx with e | hx
      · rw [e]; exact k _ (by simp [kinds, textV])
      · rw [List.mem_singleton.mp hx]; have := (show Good y from h).hi; show y.length ≤ 60; omega
    | add y =>
      rcases List.mem_cons.mp hx with e | hx
      · rw [e]; exact k _ (by simp [kinds, textV])
      · rw [List.mem_singleton.mp hx]; have := (show Good y from h).hi; show y.length ≤ 60; omega
    | keep => rw [List.mem_singleton.mp hx]; exact k _ (by simp [kinds, textV])
    | lose => rw [List.mem_singleton.mp hx]; exact k _ (by simp [kinds, textV])
    | twice => rw [List.mem_singleton.mp hx]; exact k _ (by simp [kinds, textV])
    | swap => rw [List.mem_singleton.mp hx]; exact k _ (by simp [kinds, textV])
  have := sum60 e3
  rw [e1]
  omega
theorem ok_sw {f : Addr} {fd : FuncData} (F : Fun K "step_written" "step_written" sSW f fd) (mstr : mg "str" = none) : FnOk P w K mg base CX0 1 f fd ["step"] (spSW K) := by
  refine Fun.okR F scSW (fun vs H Q E h => ?_) (fun cdv A outer s H vs Q Q2 E hr h hq => ?_)
  · obtain ⟨t, st, rfl, _⟩ := h
    rfl
  · obtain ⟨t, st, rfl, ht, ho, q⟩ := h
    refine ⟨_, pss_one (ps_ret (pe_bm PySem.F.plainAttrs_str PySem.F.slot_str_join PySem.F.type_str_join mt_join pe_str (pa_cons (pe_comp (Nc := ["part"]) (mp := [none]) rfl (CompOk.of (by rfl)) (pi_tup (pv 0))
      (fun cl C s H fp => ⟨pg_name (i := 0) nd_part rfl (Or.inl rfl), pts_nil, pe_callTy call_str_any (by rfl) mstr boot_str (pa_cons (pv 0) pa_nil)⟩)) pa_nil))), ?_⟩
    refine ⟨rfl, _, rfl, t, rfl, ⟨_, ht⟩, comp_map (as := stepV st) (v := id) (fun x => .str (textV x)) (by rw [List.map_id]; exact src_tup ht) (few (by cases st <;> simp [stepV])) (fun x hx k hk => ?_) (fun D hD => ?_)⟩
    · rcases part_kind ho x hx with ⟨z, rfl⟩ | ⟨m, rfl, hm⟩
      · exact ⟨_, rfl, .inr ⟨z, rfl, hk⟩⟩
      · exact ⟨_, rfl, .inl ⟨((m : Nat) : Int), rfl, log_ok (by omega) (by omega), hk⟩⟩
    · refine ⟨_, D, partsS st, rfl, rfl, .inl (SqL.of ?_), parts_sum ho, hq _ _ (Rst.same (same_upd hD) q)⟩
      rw [upd_same]
      unfold partsS
      rw [List.map_map]
      rfl
def spWrt (K : PySem.W.Frag) : Sp := fun vs H Q _ => ∃ (q : Addr) (ts : List Addr) (sts : List Sk), vs = [.ref q] ∧ SqT K H q (ts.map V.ref) ∧ StepsAt K H ts sts ∧ sts.length ≤ 1000 ∧ Q (.str (textS sts)) H
theorem scWrt : FnScope ["steps", "items", "kept", "step"] ["steps"] (defScope sWrt) := ⟨rfl, rfl, rfl, by decide +kernel, rfl, by decide +kernel, by decide +kernel⟩
theorem ok_wrt {f gK gS : Addr} {fd dK dS : FuncData} (F : Fun K "slips_written" "slips_written" sWrt f fd) (DK : Dfn K mg "keeps_written" sKW gK dK ["many"]) (DS : Dfn K mg "step_written" sSW gS dS ["step"]) (mstr : mg "str" = none) : FnOk P w K mg base CX0 2 f fd ["steps"] (spWrt K) := by
  have GK : FnOk P w K mg base CX0 1 gK dK ["many"] spKW := ok_kw DK.fn mstr
  have GS : FnOk P w K mg base CX0 1 gS dS ["step"] (spSW K) := ok_sw DS.fn mstr
  refine Fun.okR F scWrt (fun vs H Q E h => ?_) (fun cdv A outer s H vs Q Q2 E hr h hq => ?_)
  · obtain ⟨q, ts, sts, rfl, _⟩ := h
    rfl
  · obtain ⟨p, ts, sts, rfl, hp, hst, hn, q⟩ := h
    refine ⟨_, pss_cons (ps_set (i := 1) scWrt.nd rfl (Or.inl rfl) (pe_lst pa_nil))
      (pss_cons (ps_set (i := 2) scWrt.nd rfl (Or.inl rfl) pe_int)
      (pss_cons (ps_for PassesOwn.never rfl (pi_tup (pv 0)) (pg_name (i := 3) scWrt.nd rfl (Or.inl rfl))
        (pss_one (ps_if (pt_cmpR (op_eqS hr.units) (pv 3) (pe_tup (pa_cons pe_str pa_nil)) (nomark _))
          (pss_one (ps_set (i := 2) scWrt.nd rfl (Or.inl rfl) (pe_op op_add (pv 2) pe_int)))
          (pss_cons (ps_expr (pe_bm PySem.F.plainAttrs_list PySem.F.slot_list_extend PySem.F.type_list_extend mt_extend (pv 1) (pa_cons (pe_call GK hr (by rfl) DK.at_ DK.fn.kp DK.bn .nil pass0 (pa_cons (pv 2) pa_nil)) pa_nil)))
          (pss_cons (ps_expr (pe_bm PySem.F.plainAttrs_list PySem.F.slot_list_append PySem.F.type_list_append mt_append (pv 1) (pa_cons (pe_call GS hr (by rfl) DS.at_ DS.fn.kp DS.bn .nil pass0 (pa_cons (pv 3) pa_nil)) pa_nil)))
          (pss_one (ps_set (i := 2) scWrt.nd rfl (Or.inl rfl) pe_int)))))))
      (pss_cons (ps_expr (pe_bm PySem.F.plainAttrs_list PySem.F.slot_list_extend PySem.F.type_list_extend mt_extend (pv 1) (pa_cons (pe_call GK hr (by rfl) DK.at_ DK.fn.kp DK.bn .nil pass0 (pa_cons (pv 2) pa_nil)) pa_nil)))
      (pss_one (ps_ret (pe_bm PySem.F.plainAttrs_str PySem.F.slot_str_join PySem.F.type_str_join mt_join pe_str (pa_cons (pv 1) pa_nil))))))), ?_⟩
    refine ⟨Nat.zero_le _, fun l hl => ?_⟩
    have S0 : Same H (upd H l (.lst [])) := same_upd hl
    refine ⟨_, rfl, p, rfl, ⟨_, sameT S0 hp⟩, for_tup (K := K) (a := p) (xs := ts.map V.ref) (fun i σ H2 => ∃ (k : Nat) (its : List Str) (v3 : Option V), σ = [some (.ref p), some (.ref l), some (.int (k : Nat)), v3] ∧
      H2 l = some (.lst (its.map V.str)) ∧ Same H H2 ∧ wAll (sts.take i) = (its, k) ∧ k ≤ i ∧ its.length ≤ 2 * i ∧ ∀ z ∈ its, z.length ≤ 60)
      ⟨0, [], none, rfl, upd_same, S0, rfl, Nat.le_refl _, Nat.le_refl _, fun _ z => nomatch z⟩ (fun i σ H2 _ ⟨_, _, _, _, _, S, _⟩ => sameT S hp) ?_ ?_⟩
    · rintro i y σ H2 hi ⟨k, its, v3, rfl, h1, S, hw, hk, hil, h60⟩
      obtain ⟨t, hti, rfl⟩ := ref_at hi
      have hil' : i < sts.length := by rw [← hst.len]; exact (List.getElem?_eq_some_iff.mp hti).1
      have hsi : sts[i]? = some sts[i] := List.getElem?_eq_getElem hil'
      generalize hgs : sts[i] = st at hsi
      obtain ⟨hT, hO⟩ := hst.item i t st hti hsi
      have wt := wAll_turn hsi
      rw [hw] at wt
      refine ⟨_, rfl, few (by show 1 ≤ _; omega), fun tk htk => ⟨0, isKeep st, by decide, ?_, _, rfl, ?_⟩⟩
      · rw [← keep_eq st]
        exact EqS.flats (.inr ⟨sameT (S.trans (same_upd htk)) hT, SqT.of upd_same⟩) (step_flat st) rfl
      have S1 := S.trans (same_upd (o := .tup [.str (Str.ofString "keep")]) htk)
      have k1 := same_upd (o := .tup [.str (Str.ofString "keep")]) htk _ _ h1
      generalize hH3 : upd H2 tk (.tup [.str (Str.ofString "keep")]) = H3 at S1 k1
      cases hkp : isKeep st with
      | true =>
        have e : wStep (its, k) st = (its, k + 1) := by unfold wStep; rw [if_pos hkp]
        refine iteT ⟨_, rfl, _, _, rfl, rfl, k + 1, its, _, rfl, k1, S1, by rw [wt, e], by omega, by omega, h60⟩
      | false =>
        have e : wStep (its, k) st = (its ++ kw k ++ [itemS st], 0) := by unfold wStep; rw [if_neg (by rw [hkp]; exact Bool.false_ne_true)]
        have kk := kw_len (n := k) (by omega)
        refine iteF ⟨_, rfl, .inl ⟨rfl, _, SqL.of k1⟩, _, rfl, k, rfl, by omega, fun b hb => ?_⟩
        have Sb := same_upd (o := .lst ((kw k).map V.str)) hb
        have kb := Sb _ _ k1
        refine ⟨l, b, _, _, rfl, rfl, kb, upd_same, (by rw [List.length_map, List.length_map]; exact few (by omega)), ?_⟩
        have S2 := same_to (o := .lst (its.map V.str ++ (kw k).map V.str)) (S1.trans Sb) hl
        have k2 : upd (upd H3 b (.lst ((kw k).map V.str))) l (.lst (its.map V.str ++ (kw k).map V.str)) l = some (.lst (its.map V.str ++ (kw k).map V.str)) := upd_same
        generalize hH4 : upd (upd H3 b (.lst ((kw k).map V.str))) l (.lst (its.map V.str ++ (kw k).map V.str)) = H4 at S2 k2
        refine ⟨_, rfl, .inl ⟨rfl, _, SqL.of k2⟩, _, rfl, t, st, rfl, sameT S2 hT, hO, l, _, _, rfl, rfl, k2, (by rw [List.length_append, List.length_map, List.length_map]; exact fewer (by omega)), ?_⟩
        refine ⟨0, its ++ kw k ++ [itemS st], _, rfl, ?_, same_to S2 hl, by rw [wt, e], by omega, ?_, fun z hz => ?_⟩
        · rw [upd_same, List.map_append, List.map_append]; rfl
        · rw [List.length_append, List.length_append]; show _ + _ + 1 ≤ _; omega
        · rcases List.mem_append.mp hz with hz | hz
          · rcases List.mem_append.mp hz with hz | hz
            · exact h60 z hz
            · exact kk.2 z hz
          · rw [List.mem_singleton.mp hz]; exact item_len hO
    · rintro σ H2 ⟨k, its, v3, rfl, h1, S, hw, hk, hil, h60⟩
      rw [List.length_map, hst.len] at hk hil
      rw [List.length_map, hst.len, List.take_length] at hw
      have kk := kw_len (n := k) (by omega)
      refine ⟨_, rfl, .inl ⟨rfl, _, SqL.of h1⟩, _, rfl, k, rfl, by omega, fun b hb => ?_⟩
      have Sb := same_upd (o := .lst ((kw k).map V.str)) hb
      refine ⟨l, b, _, _, rfl, rfl, Sb _ _ h1, upd_same, (by rw [List.length_map, List.length_map]; exact few (by omega)), ?_⟩
      have S2 := same_to (o := .lst (its.map V.str ++ (kw k).map V.str)) (S.trans Sb) hl
      have ei : itemsS sts = its ++ kw k := by unfold itemsS; rw [hw]
      have l60 : ∀ z ∈ its ++ kw k, z.length ≤ 60 := fun z hz => by
        rcases List.mem_append.mp hz with hz | hz
        · exact h60 z hz
        · exact kk.2 z hz
      have s60 := sum60 l60
      have e2 : (Str.ofString ", ").length = 2 := by decide +kernel
      refine ⟨rfl, _, rfl, _, l, its ++ kw k, rfl, rfl, .inl (SqL.of (by rw [upd_same, List.map_append])), ?_, ?_⟩
      · have e3 : (its ++ kw k).length ≤ 2001 := by rw [List.length_append]; omega
        show _ + (its ++ kw k).length * (Str.ofString ", ").length ≤ _
        rw [e2]
        omega
      · refine hq _ _ (Rst.same S2 ?_)
        rw [← ei]
        exact q
/-! ### slips read -/
def spCnt : Sp := fun vs H Q _ => ∃ z : Str, vs = [.str z] ∧ z.length ≤ 10000 ∧ Q (optV (cntI z)) H
theorem scCnt : FnScope ["text", "number"] ["text"] (defScope sCnt) := ⟨rfl, rfl, rfl, by decide +kernel, rfl, by decide +kernel, by decide +kernel⟩
theorem ok_cnt {f g : Addr} {fd gd : FuncData} (F : Fun K "count_read" "count_read" sCnt f fd) (DN : Dfn K mg "number_of" sNum g gd ["text", "most"]) (GN : FnOk P w K mg base CX0 3 g gd ["text", "most"] spNum) {ts : Tok} (mS : mg "MOST_STEPS" = some (.int 80 ts)) : FnOk P w K mg base CX0 4 f fd ["text"] spCnt := by
  refine Fun.okR F scCnt (fun vs H Q E h => ?_) (fun cdv A outer s H vs Q Q2 E hr h hq => ?_)
  · obtain ⟨z, rfl, _⟩ := h
    rfl
  · obtain ⟨z, rfl, hz, q⟩ := h
    refine ⟨_, pss_cons (ps_set (i := 1) scCnt.nd rfl (Or.inl rfl) (pe_call GN hr (by rfl) DN.at_ DN.fn.kp DN.bn .nil pass0 (pa_cons (pv 0) (pa_cons (pe_glob (v := .int 80) (by rfl) mS ⟨_, rfl⟩) pa_nil))))
      (pss_one (ps_ret (pe_ifExp (pt_cmpR op_eq (pv 1) pe_int (nomark _)) pe_non (pv 1)))), ?_⟩
    have go : ∀ o, cntI z = o → Q2 (optV o) H := fun b e => hq _ _ (Rst.same (Same.refl H) (by rw [← e]; exact q))
    refine ⟨_, rfl, z, 80, rfl, hz, by decide, by decide, ?_⟩
    cases hp : pnum z 80 with
    | none =>
      refine ⟨_, rfl, rfl, _, rfl, iteK (fun e => nomatch e) ⟨_, rfl, go none ?_⟩⟩
      unfold cntI; rw [hp, if_neg (fun e => nomatch e)]
    | some n =>
      by_cases h0 : n = 0
      · subst h0
        exact ⟨_, rfl, rfl, _, rfl, iteY rfl (go none (by unfold cntI; rw [hp, if_pos rfl]))⟩
      · refine ⟨_, rfl, rfl, _, rfl, iteK (fun e => h0 (by injection e)) ⟨_, rfl, go (some n) ?_⟩⟩
        unfold cntI; rw [hp, if_neg (fun e => h0 (Option.some.inj e))]
def spPair : Sp := fun vs H Q _ => ∃ k z : Str, vs = [.str k, .str z] ∧ z.length ≤ 10000 ∧ match pairR k z with
  | some st => ∀ t, H t = none → Q (.ref t) (upd H t (.tup (stepV st)))
  | none => Q .non H
theorem scPair : FnScope ["kind", "said", "many"] ["kind", "said"] (defScope sPair) := ⟨rfl, rfl, rfl, by decide +kernel, rfl, by decide +kernel, by decide +kernel⟩
theorem pair_tup {k z : Str} (hk : k = turnS ∨ k = addS) : stepV (if k = turnS then .turn z else .add z) = [.str k, .str z] := by
  by_cases h : k = turnS
  · rw [if_pos h, h]; rfl
  · rw [if_neg h]
    rcases hk with e | e
    · exact absurd e h
    · rw [e]; rfl
theorem ok_pair {f gI gC aW : Addr} {fd dI dC : FuncData} (F : Fun K "pair_read" "pair_read" sPair f fd) (DI : Dfn K mg "is_word" sIsW gI dI ["text"]) (DC : Dfn K mg "count_read" sCnt gC dC ["text"]) (GI : FnOk P w K mg base CX0 2 gI dI ["text"] spIsW) (GC : FnOk P w K mg base CX0 4 gC dC ["text"] spCnt)
    (mWK : mg "WORD_KINDS" = some (.ref aW)) (hWK : ∀ H, SqT K H aW [.str (Str.ofString "turn"), .str (Str.ofString "add")]) : FnOk P w K mg base CX0 5 f fd ["kind", "said"] spPair := by
  have GI : FnOk P w K mg base CX0 4 gI dI ["text"] spIsW := GI.mono (by decide)
  refine F.ok scPair (fun vs H Q E h => ?_) (fun cdv A outer s H vs Q E hr h => ?_)
  · obtain ⟨k, z, rfl, _⟩ := h
    rfl
  · obtain ⟨k, z, rfl, hz, q⟩ := h
    refine ⟨_, pss_cons (ps_mid (ps_if (pw_and (pt_cmpR op_in_seq (pv 0) (pe_glob (v := .ref aW) (by rfl) mWK rfl) (by with_unfolding_all rfl)) (pw_and1 (pt_val (pe_call GI hr (by rfl) DI.at_ DI.fn.kp DI.bn .nil pass0 (pa_cons (pv 1) pa_nil))))).pt (pss_one (ps_ret (pe_tup (pa_cons (pv 0) (pa_cons (pv 1) pa_nil))))) pss_nil))
      (pss_cons (ps_set (i := 2) scPair.nd rfl (Or.inl rfl) (pe_call GC hr (by rfl) DC.at_ DC.fn.kp DC.bn .nil pass0 (pa_cons (pv 1) pa_nil)))
      (pss_cons (ps_if (pw_and (pt_cmpR op_eq (pv 0) pe_str (nomark _)) (pw_and1 (pt_cmpR op_notN (pv 2) pe_non (nomark _)))).pt (pss_one (ps_ret (pe_tup (pa_cons (pv 0) (pa_cons (pv 2) pa_nil))))) pss_nil)
      (pss_one (ps_ret pe_non)))), ?_⟩
    have z2 : (2 : Nat) ≤ sizeLine := few (by omega)
    refine ⟨fun σ' H' => σ' = [some (.str k), some (.str z), none] ∧ H' = H ∧ ¬ ((k = turnS ∨ k = addS) ∧ wordB z = true), ?_, ?_⟩
    · refine ⟨_, rfl, aW, _, rfl, .inr (hWK H), rfl, rfl, _, rfl, ?_⟩
      refine ite2 (fun h => ?_) (fun h => iteF ⟨rfl, rfl, fun c => h ((in_two _ _ _).mpr c.1)⟩)
      have hk := (in_two _ _ _).mp h
      refine ⟨_, rfl, z, rfl, few (by omega), _, rfl, ?_⟩
      cases hw : wordB z with
      | true =>
        refine iteT ⟨_, rfl, _, rfl, z2, fun t ht => ?_⟩
        have ep : pairR k z = some (if k = turnS then .turn z else .add z) := by unfold pairR; rw [if_pos ⟨hk, hw⟩]
        rw [ep] at q
        have := q t ht
        rw [pair_tup hk] at this
        exact this
      | false => exact iteF ⟨rfl, rfl, fun c => absurd c.2 Bool.false_ne_true⟩
    · rintro σ' H' ⟨rfl, rfl, hn⟩
      have ep : pairR k z = if k = skipS then (cntI z).map (fun n => .skip n.toNat) else none := by unfold pairR; rw [if_neg hn]
      refine ⟨_, rfl, z, rfl, hz, ?_⟩
      refine ⟨_, rfl, rfl, _, rfl, ?_⟩
      by_cases hk : k = skipS
      · rw [if_pos hk] at ep
        refine iteY (by rw [hk]; rfl) ?_
        cases hc : cntI z with
        | none =>
          rw [ep, hc] at q
          exact ⟨_, rfl, rfl, _, rfl, iteF q⟩
        | some n =>
          rw [ep, hc] at q
          have hn := cnt_in hc
          refine ⟨_, rfl, rfl, _, rfl, ?_⟩
          refine ite2 (fun _ => ?_) (fun c => absurd (by show (!decide (V.int n = V.non)) = true; rw [decide_eq_false (fun z => nomatch z), Bool.not_false]) c)
          refine ⟨_, rfl, _, rfl, z2, fun t ht => ?_⟩
          have := q t ht
          have e : stepV (.skip n.toNat) = [.str k, .int n] := by
            rw [hk]
            show [V.str skipS, .int ((n.toNat : Nat) : Int)] = _
            rw [Int.toNat_of_nonneg (by omega)]
          rw [e] at this
          exact this
      · rw [if_neg hk] at ep
        rw [ep] at q
        exact iteK (fun e => hk (by injection e)) (iteF q)
def spItem (C : Addr) : Sp := fun vs H Q E => ∃ z : Str, vs = [.str z] ∧ z.length ≤ 9500 ∧ match itemR z with
  | some sts => ∀ (H' : Hp) (l : Addr) (ts : List Addr), Same H H' → H' l = some (.lst (ts.map V.ref)) → TupsAt H' ts sts → Q (.ref l) H'
  | none => ∀ H', Same H H' → E (.ref C) none H'
theorem scItem : FnScope ["item", "kept", "parts", "step"] ["item"] (defScope sItem) := ⟨rfl, rfl, rfl, by decide +kernel, rfl, by decide +kernel, by decide +kernel⟩
theorem ok_item {f gC gP aB C : Addr} {fd dC dP : FuncData} (F : Fun K "item_read" "item_read" sItem f fd) (DC : Dfn K mg "count_read" sCnt gC dC ["text"]) (DP : Dfn K mg "pair_read" sPair gP dP ["kind", "said"]) (GC : FnOk P w K mg base CX0 4 gC dC ["text"] spCnt) (GP : FnOk P w K mg base CX0 5 gP dP ["kind", "said"] spPair)
    (mBK : mg "BARE_KINDS" = some (.ref aB)) (hBK : ∀ H, SqT K H aB [.str (Str.ofString "lose"), .str (Str.ofString "twice"), .str (Str.ofString "swap")]) (mC : mg "NoSlips" = some (.ref C)) (xC : VEx K C) (mlen : mg "len" = none) : FnOk P w K mg base (CXv P w) 6 f fd ["item"] (spItem C) := by
  have GC : FnOk P w K mg base CX0 5 gC dC ["text"] spCnt := GC.mono (by decide)
  refine Fun.okX F scItem (fun vs H Q E h => ?_) (fun cdv A outer s H vs Q E hr h => ?_)
  · obtain ⟨z, rfl, _⟩ := h
    rfl
  · obtain ⟨z, rfl, hz, q⟩ := h
    refine ⟨_, pss_cons (ps_mid (ps_if (pt_cmpR op_in_seq (pv 0) (pe_glob (v := .ref aB) (by rfl) mBK rfl) (by with_unfolding_all rfl)) (pss_one (ps_ret (pe_lst (pa_cons (pe_tup (pa_cons (pv 0) pa_nil)) pa_nil)))) pss_nil))
      (pss_cons (ps_set (i := 1) scItem.nd rfl (Or.inl rfl) (pe_call GC hr (by rfl) DC.at_ DC.fn.kp DC.bn .nil pass0 (pa_cons (pv 0) pa_nil)))
      (pss_cons (ps_if (pt_cmpR op_notN (pv 1) pe_non (nomark _)) (pss_one (ps_ret (pe_op op_rep (pe_lst (pa_cons (pe_tup (pa_cons pe_str pa_nil)) pa_nil)) (pv 1)))) pss_nil)
      (pss_cons (ps_set (i := 2) scItem.nd rfl (Or.inl rfl) (pe_bm PySem.F.plainAttrs_str PySem.F.slot_str_split PySem.F.type_str_split mt_split (pv 0) (pa_cons pe_str pa_nil)))
      (pss_cons (ps_mid (ps_set (i := 3) scItem.nd rfl (Or.inl rfl) (pe_ifExp (pt_cmpR op_eq (pe_callB call_len_seq (by rfl) mlen PySem.boot_len (pa_cons (pv 2) pa_nil)) pe_int (nomark _)) (pe_call GP hr (by rfl) DP.at_ DP.fn.kp DP.bn .nil pass0 (pa_cons (pe_ix ix_list (pv 2) pe_int (fun _ _ => rfl)) (pa_cons (pe_ix ix_list (pv 2) pe_int (fun _ _ => rfl)) pa_nil))) pe_non)))
      (pss_cons (ps_if (pt_cmpR op_isN (pv 3) pe_non (nomark _)) (pss_one (ps_raise rfl (by rfl) mC xC lands_def pe_str)) pss_nil)
      (pss_one (ps_ret (pe_lst (pa_cons (pv 3) pa_nil))))))))), ?_⟩
    have z1 : (1 : Nat) ≤ sizeLine := few (by omega)
    refine ⟨fun σ' H' => σ' = [some (.str z), none, none, none] ∧ H' = H ∧ z ≠ Str.ofString "lose" ∧ z ≠ Str.ofString "twice" ∧ z ≠ Str.ofString "swap", ?_, ?_⟩
    · refine ⟨_, rfl, aB, _, rfl, .inr (hBK H), rfl, rfl, _, rfl, ?_⟩
      refine ite2 (fun h => ?_) (fun h => ⟨rfl, rfl, fun c => h ((in_three _ _ _ _).mpr (.inl c)), fun c => h ((in_three _ _ _ _).mpr (.inr (.inl c))), fun c => h ((in_three _ _ _ _).mpr (.inr (.inr c)))⟩)
      have hk := (in_three _ _ _ _).mp h
      refine ⟨_, rfl, z1, fun t ht => ⟨z1, fun l hl => ?_⟩⟩
      have fin : ∀ st, okS st → stepV st = [.str z] → itemR z = some [st] → Q (.ref l) (upd (upd H t (.tup [.str z])) l (.lst [.ref t])) := fun st ho ev ei => by
        rw [ei] at q
        refine q _ l [t] ((same_upd ht).trans (same_upd hl)) upd_same (TupsAt.one ?_ ho)
        rw [upd_ne (ne_of_none upd_same hl), upd_same, ev]
      rcases hk with e | e | e
      · exact fin .lose trivial (by rw [e]; rfl) (by unfold itemR; rw [if_pos e])
      · exact fin .twice trivial (by rw [e]; rfl) (by unfold itemR; rw [if_neg (by rw [e]; decide +kernel), if_pos e])
      · exact fin .swap trivial (by rw [e]; rfl) (by unfold itemR; rw [if_neg (by rw [e]; decide +kernel), if_neg (by rw [e]; decide +kernel), if_pos e])
    · rintro σ' H' ⟨rfl, rfl, n1, n2, n3⟩
      refine ⟨_, rfl, z, rfl, by omega, ?_⟩
      cases hc : cntI z with
      | some n =>
        have hn := cnt_in hc
        refine ⟨_, rfl, rfl, _, rfl, ?_⟩
        refine ite2 (fun _ => ?_) (fun c => absurd (by show (!decide (V.int n = V.non)) = true; rw [decide_eq_false (fun z => nomatch z), Bool.not_false]) c)
        have ei : itemR z = some (List.replicate n.toNat .keep) := by unfold itemR; rw [if_neg n1, if_neg n2, if_neg n3, hc]
        rw [ei] at q
        refine ⟨z1, fun t ht => ⟨z1, fun l hl => ⟨_, rfl, l, n, _, rfl, rfl, upd_same, by omega, by omega, (by show 1 * n.toNat ≤ _; exact few (by omega)), fun r hr' => ?_⟩⟩⟩
        refine q _ r (List.replicate n.toNat t) (((same_upd ht).trans (same_upd hl)).trans (same_upd hr')) ?_ ?_
        · rw [upd_same, repFlat, List.map_replicate]
        · refine TupsAt.rep (st := .keep) ?_ trivial _
          exact same_upd hr' _ _ (same_upd hl _ _ upd_same)
      | none =>
        refine ⟨_, rfl, rfl, _, rfl, iteF ?_⟩
        have er := item_rest n1 n2 n3 hc
        have ss := split_small (z := z) (y := Str.ofString " ") (by decide +kernel)
        refine ⟨_, rfl, rfl, z, Str.ofString " ", rfl, rfl, (by decide +kernel), (by omega), fun l hl => ?_⟩
        generalize hsp : Txt.split z (Str.ofString " ") = sp at er ss
        have S1 := same_upd (o := .lst (sp.map V.str)) hl
        have hl1 : upd H' l (.lst (sp.map V.str)) l = some (.lst (sp.map V.str)) := upd_same
        generalize hH1 : upd H' l (.lst (sp.map V.str)) = H1 at S1 hl1
        refine ⟨fun σ' H2 => ∃ v3, σ' = [some (.str z), some .non, some (.ref l), some v3] ∧ Same H' H2 ∧ ((itemR z = none ∧ v3 = .non) ∨ ∃ st t, itemR z = some [st] ∧ v3 = .ref t ∧ H2 t = some (.tup (stepV st)) ∧ okS st), ?_, ?_⟩
        · refine ⟨_, rfl, l, _, rfl, .inl (SqL.of hl1), rfl, _, rfl, ?_⟩
          rw [List.length_map]
          refine ite2 (fun h => ?_) (fun h => ?_)
          · have e := of_decide_eq_true h
            injection e with e
            obtain ⟨a, b, rfl⟩ : ∃ a b, sp = [a, b] := by
              match sp, e with
              | [a, b], _ => exact ⟨a, b, rfl⟩
              | [], e => simp at e
              | [_], e => simp at e
              | _ :: _ :: _ :: _, e => simp at e; omega
            have hb : b.length ≤ z.length + 1 := ss.2 b (by simp)
            refine ⟨_, rfl, l, _, _, _, rfl, rfl, SqL.of hl1, rfl, _, rfl, l, _, _, _, rfl, rfl, SqL.of hl1, rfl, a, b, rfl, by omega, ?_⟩
            have er' : itemR z = (pairR a b).map fun st => [st] := er
            cases hp : pairR a b with
            | none =>
              rw [hp] at er'
              exact ⟨_, rfl, S1, .inl ⟨er', rfl⟩⟩
            | some st =>
              rw [hp] at er'
              intro t ht
              exact ⟨_, rfl, S1.trans (same_upd ht), .inr ⟨st, t, er', rfl, upd_same, (pair_ok hp).1⟩⟩
          · refine ⟨_, rfl, S1, .inl ⟨?_, rfl⟩⟩
            rw [er]
            have h2 : ¬ ((sp.length : Int) = 2) := fun c => h (decide_eq_true (by rw [c]))
            match sp, h2 with
            | [], _ => rfl
            | [_], _ => rfl
            | [_, _], h2 => exact absurd rfl h2
            | _ :: _ :: _ :: _, _ => rfl
        · rintro σ' H2 ⟨v3, rfl, S2, hv⟩
          rcases hv with ⟨ei, rfl⟩ | ⟨st, t, ei, rfl, ht, ho⟩
          · rw [ei] at q
            exact ⟨_, rfl, rfl, _, rfl, iteY rfl ⟨z1, q _ S2⟩⟩
          · rw [ei] at q
            refine ⟨_, rfl, rfl, _, rfl, iteK (fun z => nomatch z) ?_⟩
            refine ⟨_, rfl, z1, fun l2 hl2 => ?_⟩
            exact q _ l2 [t] (S2.trans (same_upd hl2)) upd_same (TupsAt.one (same_upd hl2 _ _ ht) ho)
def spRd (C : Addr) : Sp := fun vs H Q E => ∃ z : Str, vs = [.str z] ∧ z.length ≤ 9000 ∧ match readS z with
  | some sts => ∀ (H' : Hp) (r : Addr) (ts : List Addr), Same H H' → H' r = some (.tup (ts.map V.ref)) → TupsAt H' ts sts → Q (.ref r) H'
  | none => ∀ H', Same H H' → E (.ref C) none H'
theorem scRd : FnScope ["text", "steps", "item"] ["text"] (defScope sRd) := ⟨rfl, rfl, rfl, by decide +kernel, rfl, by decide +kernel, by decide +kernel⟩
theorem str_at {ws : List Str} {i : Nat} {y : V} (hi : (ws.map V.str)[i]? = some y) : ∃ z, ws[i]? = some z ∧ y = .str z := by
  rw [List.getElem?_map] at hi
  cases e : ws[i]? with
  | none => rw [e] at hi; cases hi
  | some t => rw [e] at hi; exact ⟨t, rfl, (Option.some.inj hi).symm⟩
theorem ok_rd {f gI C : Addr} {fd dI : FuncData} (F : Fun K "slips_read" "slips_read" sRd f fd) (DI : Dfn K mg "item_read" sItem gI dI ["item"]) (GI : FnOk P w K mg base (CXv P w) 6 gI dI ["item"] (spItem C))
    (mC : mg "NoSlips" = some (.ref C)) (xC : VEx K C) (mlen : mg "len" = none) (mtup : mg "tuple" = none) {ts : Tok} (mS : mg "MOST_STEPS" = some (.int 80 ts)) : FnOk P w K mg base (CXv P w) 7 f fd ["text"] (spRd C) := by
  refine Fun.okX F scRd (fun vs H Q E h => ?_) (fun cdv A outer s H vs Q E hr h => ?_)
  · obtain ⟨z, rfl, _⟩ := h
    rfl
  · obtain ⟨z, rfl, hz, q⟩ := h
    refine ⟨_, PSs.fly (pss_cons (ps_if (pt_cmpR op_eq (pv 0) pe_str (nomark _)) (pss_one (ps_ret (pe_tup pa_nil))) pss_nil)
      (pss_cons (ps_set (i := 1) scRd.nd rfl (Or.inl rfl) (pe_lst pa_nil))
      (pss_cons (ps_for passF rfl (pi_list (pe_bm PySem.F.plainAttrs_str PySem.F.slot_str_split PySem.F.type_str_split mt_split (pv 0) (pa_cons pe_str pa_nil))) (pg_name (i := 2) scRd.nd rfl (Or.inl rfl))
        (pss_one (ps_expr (pe_bm PySem.F.plainAttrs_list PySem.F.slot_list_extend PySem.F.type_list_extend mt_extend (pv 1) (pa_cons (pe_call GI hr (by rfl) DI.at_ DI.fn.kp DI.bn .nil passesF (pa_cons (pv 2) pa_nil)) pa_nil)))))
      (pss_cons (ps_if (pt_cmpR op_gt (pe_callB call_len_seq (by rfl) mlen PySem.boot_len (pa_cons (pv 1) pa_nil)) (pe_glob (v := .int 80) (by rfl) mS ⟨_, rfl⟩) (nomark _)) (pss_one (ps_raise rfl (by rfl) mC xC landsF pe_str)) pss_nil)
      (pss_one (ps_ret (pe_callTy call_tuple_of (by rfl) mtup boot_tuple (pa_cons (pv 1) pa_nil)))))))), ?_⟩
    have z1 : (1 : Nat) ≤ sizeLine := few (by omega)
    refine ⟨_, rfl, rfl, _, rfl, ?_⟩
    refine ite2 (fun h => ?_) (fun h => ?_)
    · have e := of_decide_eq_true h
      injection e with e
      have ed : readS z = some [] := by unfold readS; rw [if_pos e]
      rw [ed] at q
      exact ⟨Nat.zero_le _, fun p hp => q _ p [] (same_upd hp) upd_same TupsAt.nil⟩
    have hne : ¬ z = Str.ofString "" := fun e => h (decide_eq_true (by rw [e]))
    have ed : readS z = (readAll (Txt.split z (Str.ofString ", "))).bind fun sts => if 80 < sts.length then none else some sts := by unfold readS; rw [if_neg hne]
    have ss := split_small (z := z) (y := Str.ofString ", ") (by decide +kernel)
    refine ⟨Nat.zero_le _, fun l1 hl1 => ?_⟩
    refine ⟨_, rfl, rfl, z, Str.ofString ", ", rfl, rfl, (by decide +kernel), (by omega), fun p hp => ?_⟩
    generalize hsp : Txt.split z (Str.ofString ", ") = ws at ed ss
    obtain ⟨npl, hpH⟩ := freeNe hp
    have S0 : Same H (upd (upd H l1 (.lst [])) p (.lst (ws.map V.str))) := (same_upd hl1).trans (same_upd hp)
    have nn : readAll ws = none → ∀ H', Same H H' → E (.ref C) none H' := fun e H' S => by
      rw [ed, e] at q
      exact q H' S
    refine ⟨p, rfl, ⟨_, SqL.of upd_same⟩, for_list (K := K) (a := p) (xs := ws.map V.str) (fun i σ H2 => ∃ (ts : List Addr) (sts : List Sk) (v2 : Option V), σ = [some (.str z), some (.ref l1), v2] ∧
      H2 l1 = some (.lst (ts.map V.ref)) ∧ H2 p = some (.lst (ws.map V.str)) ∧ Same H H2 ∧ TupsAt H2 ts sts ∧ readAll (ws.take i) = some sts ∧ sts.length ≤ 80 * i)
      ⟨[], [], none, rfl, by rw [upd_ne (Ne.symm npl)]; exact upd_same, upd_same, S0, TupsAt.nil, rfl, Nat.le_refl _⟩ (fun i σ H2 _ ⟨_, _, _, _, _, h2, _⟩ => SqL.of h2) ?_ ?_⟩
    · rintro i y σ H2 hi ⟨ts, sts, v2, rfl, h1, h2, S, hA, hra, hsl⟩
      obtain ⟨w1, hwi, rfl⟩ := str_at hi
      have hil : i < ws.length := (List.getElem?_eq_some_iff.mp hwi).1
      have hwl := ss.2 w1 (List.mem_of_getElem? hwi)
      have rt := readAll_turn hwi hra
      refine ⟨_, rfl, .inl ⟨rfl, _, SqL.of h1⟩, _, rfl, w1, rfl, by omega, ?_⟩
      cases hi2 : itemR w1 with
      | none =>
        rw [hi2] at rt
        intro H' S'
        exact nn (readAll_stop rt) _ (S.trans S')
      | some a =>
        rw [hi2] at rt
        have hal := (item_ok hi2).1
        intro H' b tb S' hb hB
        have k1 := S' _ _ h1
        have hzz : (sizeLine : Nat) = 16777216 := szl
        refine ⟨l1, b, _, _, rfl, rfl, k1, hb, (by rw [List.length_map, List.length_map, hA.len, hB.len, hzz]; have := ss.1; omega), ?_⟩
        refine ⟨ts ++ tb, sts ++ a, _, rfl, ?_, ?_, same_to (S.trans S') hl1, ((hA.mono S').app hB).set k1, rt, ?_⟩
        · rw [upd_same, List.map_append]
        · rw [upd_ne npl]; exact S' _ _ h2
        · rw [List.length_append]; omega
    · rintro σ H2 ⟨ts, sts, v2, rfl, h1, h2, S, hA, hra, hsl⟩
      rw [List.length_map, List.take_length] at hra
      rw [ed, hra] at q
      have q' : match (if 80 < sts.length then none else some sts : Option (List Sk)) with
        | some sts => ∀ (H' : Hp) (r : Addr) (ts : List Addr), Same H H' → H' r = some (.tup (ts.map V.ref)) → TupsAt H' ts sts → Q (.ref r) H'
        | none => ∀ H', Same H H' → E (.ref C) none H' := q
      refine ⟨_, rfl, l1, _, rfl, .inl (SqL.of h1), _, _, rfl, rfl, _, rfl, ?_⟩
      rw [List.length_map, hA.len]
      refine ite2 (fun h8 => ?_) (fun h8 => ?_)
      · have h9 := of_decide_eq_true h8
        rw [if_pos (by omega)] at q'
        exact ⟨z1, q' _ S⟩
      · have h9 : ¬ ((80 : Int) < (sts.length : Int)) := fun c => h8 (decide_eq_true c)
        rw [if_neg (by omega)] at q'
        refine ⟨_, rfl, l1, _, rfl, .inl ⟨SqL.of h1, fun r hr' => ?_⟩⟩
        exact q' _ r ts (S.trans (same_upd hr')) upd_same (hA.mono (same_upd hr'))
/-! ### the steps of the program -/
def spSkF (K : PySem.W.Frag) : Sp := fun vs H Q _ => ∃ (p : Addr) (es : List Str) (d m : Nat), vs = [.ref p, .int (d : Nat), .int (m : Nat)] ∧ SqT K H p (es.map V.str) ∧ 1 ≤ m ∧ Q (.bl (skipB es d m)) H
theorem scSkF : FnScope ["elder", "done", "many"] ["elder", "done", "many"] (defScope sSkF) := ⟨rfl, rfl, rfl, by decide +kernel, rfl, by decide +kernel, by decide +kernel⟩
theorem ok_skf {f : Addr} {fd : FuncData} (F : Fun K "skip_fits" "skip_fits" sSkF f fd) (mlen : mg "len" = none) : FnOk P w K mg base CX0 1 f fd ["elder", "done", "many"] (spSkF K) := by
  refine Fun.okR F scSkF (fun vs H Q E h => ?_) (fun cdv A outer s H vs Q Q2 E hr h hq => ?_)
  · obtain ⟨p, es, d, m, rfl, _⟩ := h
    rfl
  · obtain ⟨p, es, d, m, rfl, hp, hm, q⟩ := h
    refine ⟨_, pss_cons (ps_if (pw_or (pt_cmpR op_lt (pv 1) pe_int (nomark _)) (pw_or1 (pt_cmpR op_gt (pe_op op_add (pv 1) (pv 2)) (pe_callB call_len_seq (by rfl) mlen PySem.boot_len (pa_cons (pv 0) pa_nil)) (nomark _)))).pt (pss_one (ps_ret pe_bl)) pss_nil)
      (pss_one (ps_ret (pe_cmpR op_eq (pe_ix ix_tup (pv 0) (pe_op op_sub (pe_op op_add (pv 1) (pv 2)) pe_int) (fun _ _ => rfl)) (pe_ix ix_tup (pv 0) (pe_op op_sub (pv 1) pe_int) (fun _ _ => rfl)) (nomark _)))), ?_⟩
    have go : ∀ b, skipB es d m = b → Q2 (.bl b) H := fun b e => hq _ _ (Rst.same (Same.refl H) (by rw [← e]; exact q))
    have hlen : (es.map V.str).length = es.length := List.length_map ..
    refine ⟨_, rfl, _, _, rfl, rfl, _, rfl, ?_⟩
    refine ite2 (fun h => iteT (go _ ?_)) (fun h => ?_)
    · have := of_decide_eq_true h
      unfold skipB
      rw [decide_eq_false (by omega), Bool.false_and]
    have h1 : ¬ ((d : Int) < 1) := fun c => h (decide_eq_true c)
    refine ⟨_, rfl, _, rfl, _, _, rfl, rfl, _, rfl, p, _, rfl, .inr hp, _, _, rfl, rfl, _, rfl, ?_⟩
    rw [hlen]
    refine ite2 (fun h2 => go _ ?_) (fun h2 => ?_)
    · have := of_decide_eq_true h2
      unfold skipB
      rw [decide_eq_false (by omega), Bool.false_and]
    have h3 : ¬ ((es.length : Int) < (d : Int) + (m : Int)) := fun c => h2 (decide_eq_true c)
    have e1 : (d : Int) + (m : Int) - 1 = ((d + m - 1 : Nat) : Int) := by omega
    have e2 : (d : Int) - 1 = ((d - 1 : Nat) : Int) := by omega
    refine ⟨_, rfl, _, rfl, _, rfl, _, _, rfl, rfl, _, _, rfl, rfl, p, _, _, _, rfl, rfl, hp, (by rw [e1]; exact at_w (by omega)), _, rfl, _, rfl, _, _, rfl, rfl, p, _, _, _, rfl, rfl, hp, (by rw [e2]; exact at_w (by omega)), rfl, go _ ?_⟩
    unfold skipB
    rw [decide_eq_true (by omega), Bool.true_and, str_dec, gt_of (show d - 1 < es.length by omega), some_dec (by omega)]
def spFits (K : PySem.W.Frag) : Sp := fun vs H Q _ => ∃ (p t : Addr) (es : List Str) (d : Nat) (last : Option Str) (st : Sk), vs = [.ref p, .int (d : Nat), optS last, .ref t] ∧ SqT K H p (es.map V.str) ∧ SqT K H t (stepV st) ∧ okS st ∧ Q (.bl (fitsB es d last st)) H
theorem scFits : FnScope ["elder", "done", "last", "step", "kind"] ["elder", "done", "last", "step"] (defScope sFits) := ⟨rfl, rfl, rfl, by decide +kernel, rfl, by decide +kernel, by decide +kernel⟩
theorem ok_fits {f g : Addr} {fd gd : FuncData} (F : Fun K "step_fits" "step_fits" sFits f fd) (D : Dfn K mg "skip_fits" sSkF g gd ["elder", "done", "many"]) (mlen : mg "len" = none) : FnOk P w K mg base CX0 2 f fd ["elder", "done", "last", "step"] (spFits K) := by
  have G : FnOk P w K mg base CX0 1 g gd ["elder", "done", "many"] (spSkF K) := ok_skf D.fn mlen
  refine Fun.okR F scFits (fun vs H Q E h => ?_) (fun cdv A outer s H vs Q Q2 E hr h hq => ?_)
  · obtain ⟨p, t, es, d, last, st, rfl, _⟩ := h
    rfl
  · obtain ⟨p, t, es, d, last, st, rfl, hp, ht, hok, q⟩ := h
    refine ⟨_, pss_cons (ps_set (i := 4) scFits.nd rfl (Or.inl rfl) (pe_ix ix_tup (pv 3) pe_int (fun _ _ => rfl)))
      (pss_cons (ps_if (pt_cmpR op_eq (pv 4) pe_str (nomark _)) (pss_one (ps_ret pe_bl)) pss_nil)
      (pss_cons (ps_if (pt_cmpR op_eq (pv 4) pe_str (nomark _)) (pss_one (ps_ret (pe_cmpR op_notN (pv 2) pe_non (nomark _)))) pss_nil)
      (pss_cons (ps_if (pt_cmpR op_eq (pv 4) pe_str (nomark _)) (pss_one (ps_ret (pe_and (pe_cmpR op_lt (pe_op op_add (pv 1) pe_int) (pe_callB call_len_seq (by rfl) mlen PySem.boot_len (pa_cons (pv 0) pa_nil)) (nomark _)) (pe_one (pe_cmpR op_ne (pe_ix ix_tup (pv 0) (pv 1) (fun _ _ => rfl)) (pe_ix ix_tup (pv 0) (pe_op op_add (pv 1) pe_int) (fun _ _ => rfl)) (nomark _)))))) pss_nil)
      (pss_cons (ps_if (pt_cmpR op_eq (pv 4) pe_str (nomark _)) (pss_one (ps_ret (pe_call G hr (by rfl) D.at_ D.fn.kp D.bn .nil pass0 (pa_cons (pv 0) (pa_cons (pv 1) (pa_cons (pe_ix ix_tup (pv 3) pe_int (fun _ _ => rfl)) pa_nil)))))) pss_nil)
      (pss_cons (ps_if (pt_cmpR op_eq (pv 4) pe_str (nomark _)) (pss_one (ps_ret (pe_and (pe_cmpR op_lt (pv 1) (pe_callB call_len_seq (by rfl) mlen PySem.boot_len (pa_cons (pv 0) pa_nil)) (nomark _)) (pe_one (pe_cmpR op_ne (pe_ix ix_tup (pv 0) (pv 1) (fun _ _ => rfl)) (pe_ix ix_tup (pv 3) pe_int (fun _ _ => rfl)) (nomark _)))))) pss_nil)
      (pss_one (ps_ret (pe_cmpR op_lt (pv 1) (pe_callB call_len_seq (by rfl) mlen PySem.boot_len (pa_cons (pv 0) pa_nil)) (nomark _))))))))), ?_⟩
    have go : ∀ b, fitsB es d last st = b → Q2 (.bl b) H := fun b e => hq _ _ (Rst.same (Same.refl H) (by rw [← e]; exact q))
    have hlen : (es.map V.str).length = es.length := List.length_map ..
    have dl : decide (((d : Nat) : Int) < ((es.map V.str).length : Int)) = decide (d < es.length) := by rw [hlen]; exact decide_eq_decide.mpr (by omega)
    have dl1 : decide (((d : Nat) : Int) + 1 < ((es.map V.str).length : Int)) = decide (d + 1 < es.length) := by rw [hlen]; exact decide_eq_decide.mpr (by omega)
    cases st with
    | add z =>
      refine ⟨_, rfl, t, _, _, _, rfl, rfl, ht, rfl, ?_⟩
      exact ⟨_, rfl, rfl, _, rfl, iteY rfl (go _ rfl)⟩
    | twice =>
      refine ⟨_, rfl, t, _, _, _, rfl, rfl, ht, rfl, ?_⟩
      refine ⟨_, rfl, rfl, _, rfl, iteK (by decide +kernel) ?_⟩
      refine ⟨_, rfl, rfl, _, rfl, iteY rfl ⟨_, rfl, rfl, go _ ?_⟩⟩
      cases last with
      | none => rfl
      | some l => rfl
    | swap =>
      refine ⟨_, rfl, t, _, _, _, rfl, rfl, ht, rfl, ?_⟩
      refine ⟨_, rfl, rfl, _, rfl, iteK (by decide +kernel) ?_⟩
      refine ⟨_, rfl, rfl, _, rfl, iteK (by decide +kernel) ?_⟩
      refine ⟨_, rfl, rfl, _, rfl, iteY rfl ?_⟩
      refine ⟨_, rfl, _, _, rfl, rfl, _, rfl, p, _, rfl, .inr hp, _, _, rfl, rfl, _, rfl, ?_⟩
      rw [dl1]
      refine ite2 (fun h => ?_) (fun h => ?_)
      · have hd := of_decide_eq_true h
        have e1 : ((d : Nat) : Int) + 1 = ((d + 1 : Nat) : Int) := by omega
        refine ⟨_, rfl, _, rfl, p, _, _, _, rfl, rfl, hp, at_w (by omega), _, rfl, _, rfl, _, _, rfl, rfl, p, _, _, _, rfl, rfl, hp, (by rw [e1]; exact at_w hd), rfl, go _ ?_⟩
        show (decide (d + 1 < es.length) && !decide (es[d]? = es[d + 1]?)) = _
        rw [h, Bool.true_and, gt_of hd, some_dec (by omega), str_dec]
      · refine go _ ?_
        show (decide (d + 1 < es.length) && !decide (es[d]? = es[d + 1]?)) = _
        rw [decide_eq_false (fun c => h (decide_eq_true c)), Bool.false_and]
    | skip m =>
      refine ⟨_, rfl, t, _, _, _, rfl, rfl, ht, rfl, ?_⟩
      refine ⟨_, rfl, rfl, _, rfl, iteK (by decide +kernel) ?_⟩
      refine ⟨_, rfl, rfl, _, rfl, iteK (by decide +kernel) ?_⟩
      refine ⟨_, rfl, rfl, _, rfl, iteK (by decide +kernel) ?_⟩
      refine ⟨_, rfl, rfl, _, rfl, iteY rfl ?_⟩
      exact ⟨_, rfl, _, rfl, _, rfl, t, _, _, _, rfl, rfl, ht, rfl, p, es, d, m, rfl, hp, hok.1, go _ rfl⟩
    | turn z =>
      refine ⟨_, rfl, t, _, _, _, rfl, rfl, ht, rfl, ?_⟩
      refine ⟨_, rfl, rfl, _, rfl, iteK (by decide +kernel) ?_⟩
      refine ⟨_, rfl, rfl, _, rfl, iteK (by decide +kernel) ?_⟩
      refine ⟨_, rfl, rfl, _, rfl, iteK (by decide +kernel) ?_⟩
      refine ⟨_, rfl, rfl, _, rfl, iteK (by decide +kernel) ?_⟩
      refine ⟨_, rfl, rfl, _, rfl, iteY rfl ?_⟩
      refine ⟨_, rfl, _, rfl, p, _, rfl, .inr hp, _, _, rfl, rfl, _, rfl, ?_⟩
      rw [dl]
      refine ite2 (fun h => ?_) (fun h => ?_)
      · have hd := of_decide_eq_true h
        refine ⟨_, rfl, _, rfl, p, _, _, _, rfl, rfl, hp, at_w hd, _, rfl, t, _, _, _, rfl, rfl, ht, rfl, rfl, go _ ?_⟩
        show (decide (d < es.length) && !decide (es[d]? = some z)) = _
        rw [h, Bool.true_and, some_dec hd, str_dec]
      · refine go _ ?_
        show (decide (d < es.length) && !decide (es[d]? = some z)) = _
        rw [decide_eq_false (fun c => h (decide_eq_true c)), Bool.false_and]
    | keep =>
      refine ⟨_, rfl, t, _, _, _, rfl, rfl, ht, rfl, ?_⟩
      refine ⟨_, rfl, rfl, _, rfl, iteK (by decide +kernel) ?_⟩
      refine ⟨_, rfl, rfl, _, rfl, iteK (by decide +kernel) ?_⟩
      refine ⟨_, rfl, rfl, _, rfl, iteK (by decide +kernel) ?_⟩
      refine ⟨_, rfl, rfl, _, rfl, iteK (by decide +kernel) ?_⟩
      refine ⟨_, rfl, rfl, _, rfl, iteK (by decide +kernel) ?_⟩
      exact ⟨_, rfl, _, rfl, p, _, rfl, .inr hp, _, _, rfl, rfl, go _ dl.symm⟩
    | lose =>
      refine ⟨_, rfl, t, _, _, _, rfl, rfl, ht, rfl, ?_⟩
      refine ⟨_, rfl, rfl, _, rfl, iteK (by decide +kernel) ?_⟩
      refine ⟨_, rfl, rfl, _, rfl, iteK (by decide +kernel) ?_⟩
      refine ⟨_, rfl, rfl, _, rfl, iteK (by decide +kernel) ?_⟩
      refine ⟨_, rfl, rfl, _, rfl, iteK (by decide +kernel) ?_⟩
      refine ⟨_, rfl, rfl, _, rfl, iteK (by decide +kernel) ?_⟩
      exact ⟨_, rfl, _, rfl, p, _, rfl, .inr hp, _, _, rfl, rfl, go _ dl.symm⟩
def spWd (K : PySem.W.Frag) : Sp := fun vs H Q _ => ∃ (t : Addr) (st : Sk), vs = [.ref t] ∧ SqT K H t (stepV st) ∧ Q (.int (wd st : Nat)) H
theorem scWd : FnScope ["step", "kind"] ["step"] (defScope sWd) := ⟨rfl, rfl, rfl, by decide +kernel, rfl, by decide +kernel, by decide +kernel⟩
theorem ok_wd {f : Addr} {fd : FuncData} (F : Fun K "words_done" "words_done" sWd f fd) : FnOk P w K mg base CX0 1 f fd ["step"] (spWd K) := by
  refine Fun.okR F scWd (fun vs H Q E h => ?_) (fun cdv A outer s H vs Q Q2 E hr h hq => ?_)
  · obtain ⟨t, st, rfl, _⟩ := h
    rfl
  · obtain ⟨t, st, rfl, ht, q⟩ := h
    refine ⟨_, pss_cons (ps_set (i := 1) scWd.nd rfl (Or.inl rfl) (pe_ix ix_tup (pv 0) pe_int (fun _ _ => rfl)))
      (pss_cons (ps_if (pw_or (pt_cmpR op_eq (pv 1) pe_str (nomark _)) (pw_or1 (pt_cmpR op_eq (pv 1) pe_str (nomark _)))).pt (pss_one (ps_ret pe_int)) pss_nil)
      (pss_cons (ps_if (pt_cmpR op_eq (pv 1) pe_str (nomark _)) (pss_one (ps_ret pe_int)) pss_nil)
      (pss_cons (ps_if (pt_cmpR op_eq (pv 1) pe_str (nomark _)) (pss_one (ps_ret (pe_ix ix_tup (pv 0) pe_int (fun _ _ => rfl)))) pss_nil)
      (pss_one (ps_ret pe_int))))), ?_⟩
    have go := hq _ _ (Rst.same (Same.refl H) q)
    cases st with
    | add z => exact ⟨_, rfl, t, _, _, _, rfl, rfl, ht, rfl, _, rfl, rfl, _, rfl, iteY rfl (iteT go)⟩
    | twice => exact ⟨_, rfl, t, _, _, _, rfl, rfl, ht, rfl, _, rfl, rfl, _, rfl, iteK (by decide +kernel) ⟨_, rfl, rfl, _, rfl, iteY rfl go⟩⟩
    | swap => exact ⟨_, rfl, t, _, _, _, rfl, rfl, ht, rfl, _, rfl, rfl, _, rfl, iteK (by decide +kernel) ⟨_, rfl, rfl, _, rfl, iteK (by decide +kernel) ⟨_, rfl, rfl, _, rfl, iteY rfl go⟩⟩⟩
    | skip m => exact ⟨_, rfl, t, _, _, _, rfl, rfl, ht, rfl, _, rfl, rfl, _, rfl, iteK (by decide +kernel) ⟨_, rfl, rfl, _, rfl, iteK (by decide +kernel) ⟨_, rfl, rfl, _, rfl, iteK (by decide +kernel) ⟨_, rfl, rfl, _, rfl, iteY rfl ⟨_, rfl, t, _, _, _, rfl, rfl, ht, rfl, go⟩⟩⟩⟩⟩
    | turn z => exact ⟨_, rfl, t, _, _, _, rfl, rfl, ht, rfl, _, rfl, rfl, _, rfl, iteK (by decide +kernel) ⟨_, rfl, rfl, _, rfl, iteK (by decide +kernel) ⟨_, rfl, rfl, _, rfl, iteK (by decide +kernel) ⟨_, rfl, rfl, _, rfl, iteK (by decide +kernel) go⟩⟩⟩⟩
    | keep => exact ⟨_, rfl, t, _, _, _, rfl, rfl, ht, rfl, _, rfl, rfl, _, rfl, iteK (by decide +kernel) ⟨_, rfl, rfl, _, rfl, iteK (by decide +kernel) ⟨_, rfl, rfl, _, rfl, iteK (by decide +kernel) ⟨_, rfl, rfl, _, rfl, iteK (by decide +kernel) go⟩⟩⟩⟩
    | lose => exact ⟨_, rfl, t, _, _, _, rfl, rfl, ht, rfl, _, rfl, rfl, _, rfl, iteK (by decide +kernel) ⟨_, rfl, rfl, _, rfl, iteK (by decide +kernel) ⟨_, rfl, rfl, _, rfl, iteK (by decide +kernel) ⟨_, rfl, rfl, _, rfl, iteK (by decide +kernel) go⟩⟩⟩⟩
def spWw (K : PySem.W.Frag) : Sp := fun vs H Q _ => ∃ (p t : Addr) (es : List Str) (d : Nat) (last : Option Str) (st : Sk), vs = [.ref p, .int (d : Nat), optS last, .ref t] ∧ SqT K H p (es.map V.str) ∧ SqT K H t (stepV st) ∧ fitsB es d last st = true ∧ ∀ r, H r = none → Q (.ref r) (upd H r (.tup ((ww es d last st).map V.str)))
theorem scWw : FnScope ["elder", "done", "last", "step", "kind"] ["elder", "done", "last", "step"] (defScope sWw) := ⟨rfl, rfl, rfl, by decide +kernel, rfl, by decide +kernel, by decide +kernel⟩
theorem ok_ww {f : Addr} {fd : FuncData} (F : Fun K "words_written" "words_written" sWw f fd) : FnOk P w K mg base CX0 1 f fd ["elder", "done", "last", "step"] (spWw K) := by
  refine Fun.okR F scWw (fun vs H Q E h => ?_) (fun cdv A outer s H vs Q Q2 E hr h hq => ?_)
  · obtain ⟨p, t, es, d, last, st, rfl, _⟩ := h
    rfl
  · obtain ⟨p, t, es, d, last, st, rfl, hp, ht, hf, q⟩ := h
    refine ⟨_, pss_cons (ps_set (i := 4) scWw.nd rfl (Or.inl rfl) (pe_ix ix_tup (pv 3) pe_int (fun _ _ => rfl)))
      (pss_cons (ps_if (pw_or (pt_cmpR op_eq (pv 4) pe_str (nomark _)) (pw_or1 (pt_cmpR op_eq (pv 4) pe_str (nomark _)))).pt (pss_one (ps_ret (pe_tup pa_nil))) pss_nil)
      (pss_cons (ps_if (pw_or (pt_cmpR op_eq (pv 4) pe_str (nomark _)) (pw_or1 (pt_cmpR op_eq (pv 4) pe_str (nomark _)))).pt (pss_one (ps_ret (pe_tup (pa_cons (pe_ix ix_tup (pv 3) pe_int (fun _ _ => rfl)) pa_nil)))) pss_nil)
      (pss_cons (ps_if (pt_cmpR op_eq (pv 4) pe_str (nomark _)) (pss_one (ps_ret (pe_tup (pa_cons (pv 2) pa_nil)))) pss_nil)
      (pss_cons (ps_if (pt_cmpR op_eq (pv 4) pe_str (nomark _)) (pss_one (ps_ret (pe_tup (pa_cons (pe_ix ix_tup (pv 0) (pe_op op_add (pv 1) pe_int) (fun _ _ => rfl)) (pa_cons (pe_ix ix_tup (pv 0) (pv 1) (fun _ _ => rfl)) pa_nil))))) pss_nil)
      (pss_one (ps_ret (pe_tup (pa_cons (pe_ix ix_tup (pv 0) (pv 1) (fun _ _ => rfl)) pa_nil)))))))), ?_⟩
    have go : ∀ r, H r = none → Q2 (.ref r) (upd H r (.tup ((ww es d last st).map V.str))) := fun r hr' => hq _ _ (Rst.one (same_upd hr') hr' upd_same trivial (q r hr'))
    have z1 : (1 : Nat) ≤ sizeLine := few (by omega)
    have z2 : (2 : Nat) ≤ sizeLine := few (by omega)
    cases st with
    | lose => exact ⟨_, rfl, t, _, _, _, rfl, rfl, ht, rfl, _, rfl, rfl, _, rfl, iteY rfl (iteT ⟨Nat.zero_le _, go⟩)⟩
    | skip m => exact ⟨_, rfl, t, _, _, _, rfl, rfl, ht, rfl, _, rfl, rfl, _, rfl, iteK (by decide +kernel) ⟨_, rfl, rfl, _, rfl, iteY rfl ⟨Nat.zero_le _, go⟩⟩⟩
    | turn z => exact ⟨_, rfl, t, _, _, _, rfl, rfl, ht, rfl, _, rfl, rfl, _, rfl, iteK (by decide +kernel) ⟨_, rfl, rfl, _, rfl, iteK (by decide +kernel) ⟨_, rfl, rfl, _, rfl, iteY rfl (iteT ⟨_, rfl, t, _, _, _, rfl, rfl, ht, rfl, z1, go⟩)⟩⟩⟩
    | add z => exact ⟨_, rfl, t, _, _, _, rfl, rfl, ht, rfl, _, rfl, rfl, _, rfl, iteK (by decide +kernel) ⟨_, rfl, rfl, _, rfl, iteK (by decide +kernel) ⟨_, rfl, rfl, _, rfl, iteK (by decide +kernel) ⟨_, rfl, rfl, _, rfl, iteY rfl ⟨_, rfl, t, _, _, _, rfl, rfl, ht, rfl, z1, go⟩⟩⟩⟩⟩
    | twice =>
      cases last with
      | none => exact absurd hf Bool.false_ne_true
      | some l => exact ⟨_, rfl, t, _, _, _, rfl, rfl, ht, rfl, _, rfl, rfl, _, rfl, iteK (by decide +kernel) ⟨_, rfl, rfl, _, rfl, iteK (by decide +kernel) ⟨_, rfl, rfl, _, rfl, iteK (by decide +kernel) ⟨_, rfl, rfl, _, rfl, iteK (by decide +kernel) ⟨_, rfl, rfl, _, rfl, iteY rfl ⟨_, rfl, z1, go⟩⟩⟩⟩⟩⟩
    | swap =>
      have hd : d + 1 < es.length := of_decide_eq_true (Bool.and_eq_true_iff.mp hf).1
      have e1 : ((d : Nat) : Int) + 1 = ((d + 1 : Nat) : Int) := by omega
      exact ⟨_, rfl, t, _, _, _, rfl, rfl, ht, rfl, _, rfl, rfl, _, rfl, iteK (by decide +kernel) ⟨_, rfl, rfl, _, rfl, iteK (by decide +kernel) ⟨_, rfl, rfl, _, rfl, iteK (by decide +kernel) ⟨_, rfl, rfl, _, rfl, iteK (by decide +kernel) ⟨_, rfl, rfl, _, rfl, iteK (by decide +kernel) ⟨_, rfl, rfl, _, rfl, iteY rfl
        ⟨_, rfl, _, rfl, _, _, rfl, rfl, p, _, _, _, rfl, rfl, hp, (by rw [e1]; exact at_w hd), _, rfl, _, rfl, p, _, _, _, rfl, rfl, hp, at_w (by omega), z2, go⟩⟩⟩⟩⟩⟩⟩
    | keep =>
      have hd : d < es.length := of_decide_eq_true hf
      exact ⟨_, rfl, t, _, _, _, rfl, rfl, ht, rfl, _, rfl, rfl, _, rfl, iteK (by decide +kernel) ⟨_, rfl, rfl, _, rfl, iteK (by decide +kernel) ⟨_, rfl, rfl, _, rfl, iteK (by decide +kernel) ⟨_, rfl, rfl, _, rfl, iteK (by decide +kernel) ⟨_, rfl, rfl, _, rfl, iteK (by decide +kernel) ⟨_, rfl, rfl, _, rfl, iteK (by decide +kernel)
        ⟨_, rfl, _, rfl, p, _, _, _, rfl, rfl, hp, at_w hd, z1, go⟩⟩⟩⟩⟩⟩⟩
/-! ### step_after: with its refusal -/
def AfterTo (H : Hp) (Q : VK) (d : Nat) (ws : List Str) : Prop := ∀ t r, H t = none → H r = none → r ≠ t → Q (.ref r) (upd (upd H t (.tup (ws.map V.str))) r (.tup [.int (d : Nat), .ref t]))
def spAfter (K : PySem.W.Frag) (C : Addr) : Sp := fun vs H Q E => ∃ (p t : Addr) (es : List Str) (d : Nat) (last : Option Str) (st : Sk), vs = [.ref p, .int (d : Nat), optS last, .ref t] ∧ SqT K H p (es.map V.str) ∧ SqT K H t (stepV st) ∧ okS st ∧
  match after es d last st with
  | some (d', ws) => AfterTo H Q d' ws
  | none => E (.ref C) none H
theorem scAfter : FnScope ["elder", "done", "last", "step"] ["elder", "done", "last", "step"] (defScope sAfter) := ⟨rfl, rfl, rfl, by decide +kernel, rfl, by decide +kernel, by decide +kernel⟩
theorem free_ne {H : Hp} {p r : Addr} {o : HO} (h : upd H p o r = none) : r ≠ p ∧ H r = none := by
  have n : r ≠ p := fun e => by rw [e, upd_same] at h; cases h
  exact ⟨n, by rw [upd_ne n] at h; exact h⟩
/-- two objects are left behind -/
theorem rst_two {H H' : Hp} {Q : Hp → Prop} {t r : Addr} {o1 o2 : HO} (S : Same H H') (ht : H' t = none) (hr : upd H' t o1 r = none) (n1 : newO o1) (n2 : newO o2) (q : Q (upd (upd H t o1) r o2)) : Rst H (upd (upd H' t o1) r o2) Q := by
  have ht0 : H t = none := S.free ht
  obtain ⟨n, hr1⟩ := free_ne hr
  have s1 : Same (upd H t o1) (upd H' t o1) := fun a o e => by
    by_cases ha : a = t
    · subst ha; rw [upd_same] at e ⊢; exact e
    · rw [upd_ne ha] at e ⊢; exact S a o e
  have hr0 : upd H t o1 r = none := by rw [upd_ne n]; exact S.free hr1
  exact Rst.more (same_upd ht0) (fun a o e => by
    by_cases ha : a = t
    · subst ha; rw [upd_same] at e; cases e; exact .inr n1
    · rw [upd_ne ha] at e; exact .inl e) (Rst.one (s1.trans (same_upd hr)) hr0 upd_same n2 q)
theorem ok_after {f gF gS gD gW C : Addr} {fd dF dS dD dW : FuncData} (F : Fun K "step_after" "step_after" sAfter f fd) (DF : Dfn K mg "step_fits" sFits gF dF ["elder", "done", "last", "step"]) (DS : Dfn K mg "skip_fits" sSkF gS dS ["elder", "done", "many"]) (DD : Dfn K mg "words_done" sWd gD dD ["step"]) (DW : Dfn K mg "words_written" sWw gW dW ["elder", "done", "last", "step"])
    (mC : mg "NoSlips" = some (.ref C)) (xC : VEx K C) (mlen : mg "len" = none) : FnOk P w K mg base (CXv P w) 3 f fd ["elder", "done", "last", "step"] (spAfter K C) := by
  have GF : FnOk P w K mg base CX0 2 gF dF ["elder", "done", "last", "step"] (spFits K) := ok_fits DF.fn DS mlen
  have GD : FnOk P w K mg base CX0 2 gD dD ["step"] (spWd K) := (ok_wd DD.fn).mono (by decide)
  have GW : FnOk P w K mg base CX0 2 gW dW ["elder", "done", "last", "step"] (spWw K) := (ok_ww DW.fn).mono (by decide)
  refine Fun.okXR F scAfter (fun vs H Q E h => ?_) (fun cdv A outer s H vs Q Q2 E E2 hr h hq hE => ?_)
  · obtain ⟨p, t, es, d, last, st, rfl, _⟩ := h
    rfl
  · obtain ⟨p, t, es, d, last, st, rfl, hp, ht, hok, q⟩ := h
    refine ⟨_, pss_cons (ps_if (pt_not (pt_val (pe_call GF hr (by rfl) DF.at_ DF.fn.kp DF.bn .nil pass0 (pa_cons (pv 0) (pa_cons (pv 1) (pa_cons (pv 2) (pa_cons (pv 3) pa_nil))))))) (pss_one (ps_raise rfl (by rfl) mC xC lands_def pe_str)) pss_nil)
      (pss_one (ps_ret (pe_tup (pa_cons (pe_op op_add (pv 1) (pe_call GD hr (by rfl) DD.at_ DD.fn.kp DD.bn .nil pass0 (pa_cons (pv 3) pa_nil))) (pa_cons (pe_call GW hr (by rfl) DW.at_ DW.fn.kp DW.bn .nil pass0 (pa_cons (pv 0) (pa_cons (pv 1) (pa_cons (pv 2) (pa_cons (pv 3) pa_nil))))) pa_nil))))), ?_⟩
    refine ⟨_, rfl, _, rfl, _, rfl, _, rfl, p, t, es, d, last, st, rfl, hp, ht, hok, _, rfl, ?_⟩
    unfold after at q
    cases hf : fitsB es d last st with
    | false =>
      rw [hf, if_neg Bool.false_ne_true] at q
      exact iteT ⟨few (by show 1 ≤ _; omega), hE _ _ _ (Rst.same (Same.refl H) q)⟩
    | true =>
      rw [hf, if_pos rfl] at q
      refine iteF ⟨_, rfl, _, rfl, t, st, rfl, ht, _, _, rfl, rfl, ?_⟩
      refine ⟨_, rfl, _, rfl, _, rfl, _, rfl, p, t, es, d, last, st, rfl, hp, ht, hf, fun r hr1 => ⟨few (by show 2 ≤ _; omega), fun r2 hr2 => ?_⟩⟩
      obtain ⟨n, hH⟩ := free_ne hr2
      have e : ((d : Nat) : Int) + ((wd st : Nat) : Int) = ((d + wd st : Nat) : Int) := by omega
      show Q2 (.ref r2) (upd (upd H r (.tup ((ww es d last st).map V.str))) r2 (.tup [.int (((d : Nat) : Int) + ((wd st : Nat) : Int)), .ref r]))
      rw [e]
      exact hq _ _ (rst_two (Same.refl H) hr1 hr2 trivial trivial (q r r2 hr1 hH n))
/-! ### the law's own step -/
theorem seqT {K : PySem.W.Frag} {H H' : Hp} {a : Addr} {xs : List V} (S : Same H H') (h : SqT K H a xs) : SqT K H' a xs := by
  rcases h with (h | ⟨o, h⟩) | h
  · exact .inl (.inl (S _ _ h))
  · exact .inl (.inr ⟨o, S _ _ h⟩)
  · exact .inr h
def spLAfter (K : PySem.W.Frag) : Sp := fun vs H Q _ => ∃ (p t : Addr) (es : List Str) (d : Nat) (last : Option Str) (st : Sk), vs = [.ref p, .int (d : Nat), optS last, .ref t] ∧ SqT K H p (es.map V.str) ∧ SqT K H t (stepV st) ∧ okS st ∧ d ≤ es.length ∧
  match after es d last st with
  | some (d', ws) => AfterTo H Q d' ws
  | none => Q .non H
theorem scLAfter : FnScope ["elder", "done", "last", "step", "kind", "left"] ["elder", "done", "last", "step"] (defScope sLAfter) := ⟨rfl, rfl, rfl, by decide +kernel, rfl, by decide +kernel, by decide +kernel⟩
theorem cut_from (es : List Str) (d : Nat) : cutV (es.map V.str) (some (d : Int)) none = (es.drop d).map V.str := by
  unfold cutV
  rw [HT.sIx_none, HT.sIx_nat, List.length_map, List.map_drop]
  have e : (es.map V.str).drop (min d es.length) = (es.map V.str).drop d := by
    have := drop_min (es.map V.str) d
    rw [List.length_map] at this
    exact this
  rw [e]
  exact List.take_of_length_le (by rw [List.length_drop, List.length_map]; omega)
theorem drop_at {es : List Str} {d k : Nat} (h : d + k < es.length) : atI ((es.drop d).map V.str) (k : Int) = some (.str (gt es (d + k))) := by
  refine atI_nat ?_
  rw [List.getElem?_map, List.getElem?_drop, gt_of h]
  rfl
theorem ok_lafter {f : Addr} {fd : FuncData} (F : Fun K "_law_after" "_law_after" sLAfter f fd) (mlen : mg "len" = none) : FnOk P w K mg base CX0 1 f fd ["elder", "done", "last", "step"] (spLAfter K) := by
  refine Fun.okR F scLAfter (fun vs H Q E h => ?_) (fun cdv A outer s H vs Q Q2 E hr h hq => ?_)
  · obtain ⟨p, t, es, d, last, st, rfl, _⟩ := h
    rfl
  · obtain ⟨p, t, es, d, last, st, rfl, hp, ht, hok, hde, q⟩ := h
    refine ⟨_, pss_cons (ps_set (i := 4) scLAfter.nd rfl (Or.inl rfl) (pe_ix ix_tup (pv 3) pe_int (fun _ _ => rfl)))
      (pss_cons (ps_mid (ps_set (i := 5) scLAfter.nd rfl (Or.inl rfl) (pe_slice sl_tupA (pv 0) (po_some (pv 1)) po_none)))
      (pss_cons (ps_if (pw_and (pt_cmpR op_eq (pv 4) pe_str (nomark _)) (pw_and1 (pt_cmpR op_gt (pe_callB call_len_seq (by rfl) mlen PySem.boot_len (pa_cons (pv 5) pa_nil)) pe_int (nomark _)))).pt
        (pss_one (ps_ret (pe_tup (pa_cons (pe_op op_add (pv 1) pe_int) (pa_cons (pe_tup (pa_cons (pe_ix ix_tup (pv 5) pe_int (fun _ _ => rfl)) pa_nil)) pa_nil))))) pss_nil)
      (pss_cons (ps_if (pw_and (pt_cmpR op_eq (pv 4) pe_str (nomark _)) (pw_and (pt_cmpR op_gt (pe_callB call_len_seq (by rfl) mlen PySem.boot_len (pa_cons (pv 5) pa_nil)) pe_int (nomark _)) (pw_and1 (pt_cmpR op_ne (pe_ix ix_tup (pv 5) pe_int (fun _ _ => rfl)) (pe_ix ix_tup (pv 3) pe_int (fun _ _ => rfl)) (nomark _))))).pt
        (pss_one (ps_ret (pe_tup (pa_cons (pe_op op_add (pv 1) pe_int) (pa_cons (pe_tup (pa_cons (pe_ix ix_tup (pv 3) pe_int (fun _ _ => rfl)) pa_nil)) pa_nil))))) pss_nil)
      (pss_cons (ps_if (pw_and (pt_cmpR op_eq (pv 4) pe_str (nomark _)) (pw_and1 (pt_cmpR op_gt (pe_callB call_len_seq (by rfl) mlen PySem.boot_len (pa_cons (pv 5) pa_nil)) pe_int (nomark _)))).pt
        (pss_one (ps_ret (pe_tup (pa_cons (pe_op op_add (pv 1) pe_int) (pa_cons (pe_tup pa_nil) pa_nil))))) pss_nil)
      (pss_cons (ps_if (pt_cmpR op_eq (pv 4) pe_str (nomark _)) (pss_one (ps_ret (pe_tup (pa_cons (pv 1) (pa_cons (pe_tup (pa_cons (pe_ix ix_tup (pv 3) pe_int (fun _ _ => rfl)) pa_nil)) pa_nil))))) pss_nil)
      (pss_cons (ps_if (pw_and (pt_cmpR op_eq (pv 4) pe_str (nomark _)) (pw_and1 (pt_cmpR op_notN (pv 2) pe_non (nomark _)))).pt (pss_one (ps_ret (pe_tup (pa_cons (pv 1) (pa_cons (pe_tup (pa_cons (pv 2) pa_nil)) pa_nil))))) pss_nil)
      (pss_cons (ps_if (pw_and (pt_cmpR op_eq (pv 4) pe_str (nomark _)) (pw_and (pt_cmpR op_gt (pe_callB call_len_seq (by rfl) mlen PySem.boot_len (pa_cons (pv 5) pa_nil)) pe_int (nomark _)) (pw_and1 (pt_cmpR op_ne (pe_ix ix_tup (pv 5) pe_int (fun _ _ => rfl)) (pe_ix ix_tup (pv 5) pe_int (fun _ _ => rfl)) (nomark _))))).pt
        (pss_one (ps_ret (pe_tup (pa_cons (pe_op op_add (pv 1) pe_int) (pa_cons (pe_tup (pa_cons (pe_ix ix_tup (pv 5) pe_int (fun _ _ => rfl)) (pa_cons (pe_ix ix_tup (pv 5) pe_int (fun _ _ => rfl)) pa_nil))) pa_nil))))) pss_nil)
      (pss_cons (ps_if (pw_and (pt_cmpR op_eq (pv 4) pe_str (nomark _)) (pw_and (pt_cmpR op_gt (pv 1) pe_int (nomark _)) (pw_and (pt_cmpR op_le (pe_ix ix_tup (pv 3) pe_int (fun _ _ => rfl)) (pe_callB call_len_seq (by rfl) mlen PySem.boot_len (pa_cons (pv 5) pa_nil)) (nomark _))
          (pw_and1 (pt_cmpR op_eq (pe_ix ix_tup (pv 5) (pe_op op_sub (pe_ix ix_tup (pv 3) pe_int (fun _ _ => rfl)) pe_int) (fun _ _ => rfl)) (pe_ix ix_tup (pv 0) (pe_op op_sub (pv 1) pe_int) (fun _ _ => rfl)) (nomark _)))))).pt
        (pss_one (ps_ret (pe_tup (pa_cons (pe_op op_add (pv 1) (pe_ix ix_tup (pv 3) pe_int (fun _ _ => rfl))) (pa_cons (pe_tup pa_nil) pa_nil))))) pss_nil)
      (pss_one (ps_ret pe_non)))))))))), ?_⟩
    -- kind, left
    obtain ⟨kv, hk0⟩ : ∃ kv, atI (stepV st) 0 = some kv := by cases st <;> exact ⟨_, rfl⟩
    refine ⟨_, rfl, t, _, _, kv, rfl, rfl, ht, hk0, ?_⟩
    have hlen : (es.map V.str).length = es.length := List.length_map ..
    refine ⟨fun σ' H' => ∃ r, σ' = [some (.ref p), some (.int (d : Nat)), some (optS last), some (.ref t), some kv, some (.ref r)] ∧ Same H H' ∧ SqT K H' r ((es.drop d).map V.str), ?_, ?_⟩
    · refine ⟨_, rfl, _, rfl, _, rfl, p, _, rfl, hp, fun hw => ?_, fun hw r hr' => ?_⟩
      · refine ⟨p, rfl, Same.refl H, ?_⟩
        rw [HT.sIx_nat, hlen] at hw
        have h0 : d = 0 ∨ es.length = 0 := by have := hw.1; omega
        have e : es.drop d = es := by
          rcases h0 with h0 | h0
          · rw [h0, List.drop_zero]
          · rw [List.eq_nil_of_length_eq_zero h0, List.drop_nil]
        rw [e]; exact hp
      · refine ⟨r, rfl, same_upd hr', SqT.of ?_⟩
        rw [cut_from]; exact upd_same
    · rintro σ' H' ⟨r, rfl, S, hl⟩
      have hdl : ((es.drop d).map V.str).length = es.length - d := by rw [List.length_map, List.length_drop]
      have ht' : SqT K H' t (stepV st) := seqT S ht
      have hp' : SqT K H' p (es.map V.str) := seqT S hp
      have z1 : (1 : Nat) ≤ sizeLine := few (by omega)
      have z2 : (2 : Nat) ≤ sizeLine := few (by omega)
      have no : fitsB es d last st = false → Q2 .non H' := fun e => by
        unfold after at q
        rw [e, if_neg Bool.false_ne_true] at q
        exact hq _ _ (Rst.same S q)
      have yes : fitsB es d last st = true → ∀ a, H' a = none → ∀ b, upd H' a (.tup ((ww es d last st).map V.str)) b = none → Q2 (.ref b) (upd (upd H' a (.tup ((ww es d last st).map V.str))) b (.tup [.int ((d + wd st : Nat) : Int), .ref a])) := fun e a ha b hb => by
        unfold after at q
        rw [e, if_pos rfl] at q
        obtain ⟨n, hb1⟩ := free_ne hb
        exact hq _ _ (rst_two S ha hb trivial trivial (q a b (S.free ha) (S.free hb1) n))
      have gt0 : decide ((0 : Int) < (((es.drop d).map V.str).length : Int)) = decide (d < es.length) := by rw [hdl]; exact decide_eq_decide.mpr (by omega)
      have gt1 : decide ((1 : Int) < (((es.drop d).map V.str).length : Int)) = decide (d + 1 < es.length) := by rw [hdl]; exact decide_eq_decide.mpr (by omega)
      have at0 : d < es.length → atI ((es.drop d).map V.str) 0 = some (.str (gt es d)) := fun h => drop_at (k := 0) h
      have at1 : d + 1 < es.length → atI ((es.drop d).map V.str) 1 = some (.str (gt es (d + 1))) := fun h => drop_at (k := 1) h
      cases st with
      | keep =>
        cases hk0
        refine ⟨_, rfl, rfl, _, rfl, iteY rfl ⟨_, rfl, r, _, rfl, .inr hl, _, _, rfl, rfl, _, rfl, ?_⟩⟩
        rw [gt0]
        refine ite2 (fun h => ?_) (fun h => ?_)
        · have hd := of_decide_eq_true h
          exact ⟨_, rfl, _, _, rfl, rfl, _, rfl, r, _, _, _, rfl, rfl, hl, at0 hd, z1, fun a ha => ⟨z2, yes h a ha⟩⟩
        · have hf : fitsB es d last .keep = false := decide_eq_false fun c => h (decide_eq_true c)
          refine ⟨_, rfl, rfl, _, rfl, iteK (by decide +kernel) (iteF ?_)⟩
          refine ⟨_, rfl, rfl, _, rfl, iteK (by decide +kernel) (iteF ?_)⟩
          refine ⟨_, rfl, rfl, _, rfl, iteK (by decide +kernel) ?_⟩
          refine ⟨_, rfl, rfl, _, rfl, iteK (by decide +kernel) (iteF ?_)⟩
          refine ⟨_, rfl, rfl, _, rfl, iteK (by decide +kernel) (iteF ?_)⟩
          exact ⟨_, rfl, rfl, _, rfl, iteK (by decide +kernel) (iteF (no hf))⟩
      | turn y =>
        cases hk0
        refine ⟨_, rfl, rfl, _, rfl, iteK (by decide +kernel) (iteF ?_)⟩
        refine ⟨_, rfl, rfl, _, rfl, iteY rfl ⟨_, rfl, r, _, rfl, .inr hl, _, _, rfl, rfl, _, rfl, ?_⟩⟩
        rw [gt0]
        refine ite2 (fun h => ?_) (fun h => iteF ⟨_, rfl, rfl, _, rfl, iteK (by decide +kernel) (iteF ⟨_, rfl, rfl, _, rfl, iteK (by decide +kernel) ⟨_, rfl, rfl, _, rfl, iteK (by decide +kernel) (iteF ⟨_, rfl, rfl, _, rfl, iteK (by decide +kernel) (iteF ⟨_, rfl, rfl, _, rfl, iteK (by decide +kernel) (iteF (no ?_))⟩)⟩)⟩⟩)⟩)
        · have hd := of_decide_eq_true h
          refine ⟨_, rfl, r, _, _, _, rfl, rfl, hl, at0 hd, _, rfl, t, _, _, _, rfl, rfl, ht', rfl, rfl, _, rfl, ?_⟩
          have ef : fitsB es d last (.turn y) = !decide (V.str (gt es d) = V.str y) := by
            show (decide (d < es.length) && !decide (es[d]? = some y)) = _
            rw [h, Bool.true_and, some_dec hd, str_dec]
          refine ite2 (fun h2 => ?_) (fun h2 => ⟨_, rfl, rfl, _, rfl, iteK (by decide +kernel) (iteF ⟨_, rfl, rfl, _, rfl, iteK (by decide +kernel) ⟨_, rfl, rfl, _, rfl, iteK (by decide +kernel) (iteF ⟨_, rfl, rfl, _, rfl, iteK (by decide +kernel) (iteF ⟨_, rfl, rfl, _, rfl, iteK (by decide +kernel) (iteF (no ?_))⟩)⟩)⟩⟩)⟩)
          · exact ⟨_, rfl, _, _, rfl, rfl, _, rfl, t, _, _, _, rfl, rfl, ht', rfl, z1, fun a ha => ⟨z2, yes (ef.trans h2) a ha⟩⟩
          · rw [ef]; exact Bool.eq_false_iff.mpr h2
        · show (decide (d < es.length) && !decide (es[d]? = some y)) = _
          rw [decide_eq_false (fun c => h (decide_eq_true c)), Bool.false_and]
      | lose =>
        cases hk0
        refine ⟨_, rfl, rfl, _, rfl, iteK (by decide +kernel) (iteF ?_)⟩
        refine ⟨_, rfl, rfl, _, rfl, iteK (by decide +kernel) (iteF ?_)⟩
        refine ⟨_, rfl, rfl, _, rfl, iteY rfl ⟨_, rfl, r, _, rfl, .inr hl, _, _, rfl, rfl, _, rfl, ?_⟩⟩
        rw [gt0]
        refine ite2 (fun h => ?_) (fun h => ?_)
        · exact ⟨_, rfl, _, _, rfl, rfl, Nat.zero_le _, fun a ha => ⟨z2, yes h a ha⟩⟩
        · have hf : fitsB es d last .lose = false := decide_eq_false fun c => h (decide_eq_true c)
          refine ⟨_, rfl, rfl, _, rfl, iteK (by decide +kernel) ?_⟩
          refine ⟨_, rfl, rfl, _, rfl, iteK (by decide +kernel) (iteF ?_)⟩
          refine ⟨_, rfl, rfl, _, rfl, iteK (by decide +kernel) (iteF ?_)⟩
          exact ⟨_, rfl, rfl, _, rfl, iteK (by decide +kernel) (iteF (no hf))⟩
      | add y =>
        cases hk0
        refine ⟨_, rfl, rfl, _, rfl, iteK (by decide +kernel) (iteF ?_)⟩
        refine ⟨_, rfl, rfl, _, rfl, iteK (by decide +kernel) (iteF ?_)⟩
        refine ⟨_, rfl, rfl, _, rfl, iteK (by decide +kernel) (iteF ?_)⟩
        exact ⟨_, rfl, rfl, _, rfl, iteY rfl ⟨_, rfl, _, rfl, t, _, _, _, rfl, rfl, ht', rfl, z1, fun a ha => ⟨z2, yes rfl a ha⟩⟩⟩
      | twice =>
        cases hk0
        refine ⟨_, rfl, rfl, _, rfl, iteK (by decide +kernel) (iteF ?_)⟩
        refine ⟨_, rfl, rfl, _, rfl, iteK (by decide +kernel) (iteF ?_)⟩
        refine ⟨_, rfl, rfl, _, rfl, iteK (by decide +kernel) (iteF ?_)⟩
        refine ⟨_, rfl, rfl, _, rfl, iteK (by decide +kernel) ?_⟩
        refine ⟨_, rfl, rfl, _, rfl, iteY rfl ⟨_, rfl, rfl, _, rfl, ?_⟩⟩
        cases last with
        | some l => exact iteT ⟨_, rfl, _, rfl, z1, fun a ha => ⟨z2, yes rfl a ha⟩⟩
        | none =>
          refine iteF ?_
          refine ⟨_, rfl, rfl, _, rfl, iteK (by decide +kernel) (iteF ?_)⟩
          exact ⟨_, rfl, rfl, _, rfl, iteK (by decide +kernel) (iteF (no rfl))⟩
      | swap =>
        cases hk0
        refine ⟨_, rfl, rfl, _, rfl, iteK (by decide +kernel) (iteF ?_)⟩
        refine ⟨_, rfl, rfl, _, rfl, iteK (by decide +kernel) (iteF ?_)⟩
        refine ⟨_, rfl, rfl, _, rfl, iteK (by decide +kernel) (iteF ?_)⟩
        refine ⟨_, rfl, rfl, _, rfl, iteK (by decide +kernel) ?_⟩
        refine ⟨_, rfl, rfl, _, rfl, iteK (by decide +kernel) (iteF ?_)⟩
        refine ⟨_, rfl, rfl, _, rfl, iteY rfl ⟨_, rfl, r, _, rfl, .inr hl, _, _, rfl, rfl, _, rfl, ?_⟩⟩
        rw [gt1]
        refine ite2 (fun h => ?_) (fun h => iteF ⟨_, rfl, rfl, _, rfl, iteK (by decide +kernel) (iteF (no ?_))⟩)
        · have hd := of_decide_eq_true h
          refine ⟨_, rfl, r, _, _, _, rfl, rfl, hl, at0 (by omega), _, rfl, r, _, _, _, rfl, rfl, hl, at1 hd, rfl, _, rfl, ?_⟩
          have ef : fitsB es d last .swap = !decide (V.str (gt es d) = V.str (gt es (d + 1))) := by
            show (decide (d + 1 < es.length) && !decide (es[d]? = es[d + 1]?)) = _
            rw [h, Bool.true_and, gt_of hd, some_dec (by omega), str_dec]
          refine ite2 (fun h2 => ?_) (fun h2 => ⟨_, rfl, rfl, _, rfl, iteK (by decide +kernel) (iteF (no ?_))⟩)
          · exact ⟨_, rfl, _, _, rfl, rfl, _, rfl, r, _, _, _, rfl, rfl, hl, at1 hd, _, rfl, r, _, _, _, rfl, rfl, hl, at0 (by omega), z2, fun a ha => ⟨z2, yes (ef.trans h2) a ha⟩⟩
          · rw [ef]; exact Bool.eq_false_iff.mpr h2
        · show (decide (d + 1 < es.length) && !decide (es[d]? = es[d + 1]?)) = _
          rw [decide_eq_false (fun c => h (decide_eq_true c)), Bool.false_and]
      | skip m =>
        cases hk0
        have hm := hok.1
        refine ⟨_, rfl, rfl, _, rfl, iteK (by decide +kernel) (iteF ?_)⟩
        refine ⟨_, rfl, rfl, _, rfl, iteK (by decide +kernel) (iteF ?_)⟩
        refine ⟨_, rfl, rfl, _, rfl, iteK (by decide +kernel) (iteF ?_)⟩
        refine ⟨_, rfl, rfl, _, rfl, iteK (by decide +kernel) ?_⟩
        refine ⟨_, rfl, rfl, _, rfl, iteK (by decide +kernel) (iteF ?_)⟩
        refine ⟨_, rfl, rfl, _, rfl, iteK (by decide +kernel) (iteF ?_)⟩
        refine ⟨_, rfl, rfl, _, rfl, iteY rfl ⟨_, rfl, _, _, rfl, rfl, _, rfl, ?_⟩⟩
        refine ite2 (fun h => ?_) (fun h => iteF (no ?_))
        · have hd : (0 : Int) < ((d : Nat) : Int) := of_decide_eq_true h
          refine ⟨_, rfl, t, _, _, _, rfl, rfl, ht', rfl, _, rfl, r, _, rfl, .inr hl, _, _, rfl, rfl, _, rfl, ?_⟩
          rw [hdl]
          refine ite2 (fun h2 => ?_) (fun h2 => iteF (no ?_))
          · have hd2 := of_decide_eq_true h2
            have e1 : ((m : Nat) : Int) - 1 = ((m - 1 : Nat) : Int) := by omega
            have e2 : ((d : Nat) : Int) - 1 = ((d - 1 : Nat) : Int) := by omega
            refine ⟨_, rfl, _, rfl, t, _, _, _, rfl, rfl, ht', rfl, _, _, rfl, rfl, r, _, _, _, rfl, rfl, hl, (by rw [e1]; exact drop_at (by omega)), _, rfl, _, rfl, _, _, rfl, rfl, p, _, _, _, rfl, rfl, hp', (by rw [e2]; exact at_w (by omega)), rfl, _, rfl, ?_⟩
            have ef : fitsB es d last (.skip m) = decide (V.str (gt es (d + (m - 1))) = V.str (gt es (d - 1))) := by
              show skipB es d m = _
              unfold skipB
              rw [decide_eq_true (by omega), Bool.true_and, str_dec, gt_of (show d - 1 < es.length by omega), some_dec (by omega), show d + m - 1 = d + (m - 1) by omega]
            refine ite2 (fun h3 => ?_) (fun h3 => no ?_)
            · refine ⟨_, rfl, _, rfl, t, _, _, _, rfl, rfl, ht', rfl, _, _, rfl, rfl, Nat.zero_le _, fun a ha => ⟨z2, ?_⟩⟩
              intro b hb
              have := yes (ef.trans h3) a ha b hb
              have e3 : ((d + wd (.skip m) : Nat) : Int) = ((d : Nat) : Int) + ((m : Nat) : Int) := by show ((d + m : Nat) : Int) = _; omega
              rw [e3] at this
              exact this
            · rw [ef]; exact Bool.eq_false_iff.mpr h3
          · show skipB es d m = _
            unfold skipB
            rw [decide_eq_false (fun c => h2 (decide_eq_true (by omega))), Bool.false_and]
        · show skipB es d m = _
          unfold skipB
          rw [decide_eq_false (fun c => h (decide_eq_true (by have := c.1; omega))), Bool.false_and]
/-! ### a step by a cell -/
def spStep (K : PySem.W.Frag) : Sp := fun vs H Q _ => ∃ (p : Addr) (es : List Str) (d : Nat) (c : Int), vs = [.ref p, .int (d : Nat), .int c] ∧ SqT K H p (es.map V.str) ∧ (∀ z ∈ es, Good z) ∧ d ≤ es.length ∧ es.length ≤ 100 ∧ ∀ st, okS st → ∀ t, H t = none → Q (.ref t) (upd H t (.tup (stepV st)))
theorem scStep : FnScope ["elder", "done", "cell", "kind", "rest", "word", "many"] ["elder", "done", "cell"] (defScope sStep) := ⟨rfl, rfl, rfl, by decide +kernel, rfl, by decide +kernel, by decide +kernel⟩
theorem nd_kde : (["k", "done", "elder"] : List Str).Nodup := by decide +kernel
theorem ok_step {f gW gO : Addr} {fd dW dO : FuncData} (F : Fun K "_law_step" "_law_step" sStep f fd) (DW : Dfn K mg "_law_word" sWord gW dW ["cell"]) (DO : Dfn K mg "_law_other" sOther gO dO ["word", "place", "step"]) (mlen : mg "len" = none) (mrange : mg "range" = none) : FnOk P w K mg base CX0 2 f fd ["elder", "done", "cell"] (spStep K) := by
  have GW : FnOk P w K mg base CX0 1 gW dW ["cell"] spWord := ok_word DW.fn mrange
  have GO : FnOk P w K mg base CX0 1 gO dO ["word", "place", "step"] spOther := ok_other DO.fn mlen
  refine Fun.okR F scStep (fun vs H Q E h => ?_) (fun cdv A outer s H vs Q Q2 E hr h hq => ?_)
  · obtain ⟨p, es, d, c, rfl, _⟩ := h
    rfl
  · obtain ⟨p, es, d, c, rfl, hp, hg, hde, hel, q⟩ := h
    refine ⟨_, pss_cons (ps_set (i := 3) scStep.nd rfl (Or.inl rfl) (pe_ix ix_list (pe_lst (pa_cons pe_str (pa_cons pe_str (pa_cons pe_str (pa_cons pe_str (pa_cons pe_str (pa_cons pe_str (pa_cons pe_str (pa_cons pe_str pa_nil))))))))) (pe_op op_mod (pv 2) pe_int) (fun _ _ => rfl)))
      (pss_cons (ps_set (i := 4) scStep.nd rfl (Or.inl rfl) (pe_op op_fdiv (pv 2) pe_int))
      (pss_cons (ps_set (i := 5) scStep.nd rfl (Or.inl rfl) (pe_call GW hr (by rfl) DW.at_ DW.fn.kp DW.bn .nil pass0 (pa_cons (pe_op op_fdiv (pv 4) pe_int) pa_nil)))
      (pss_cons (ps_mid (ps_if (pw_and (pt_cmpR op_eq (pe_op op_mod (pv 4) pe_int) pe_int (nomark _)) (pw_and1 (pt_cmpR op_gt (pe_callB call_len_seq (by rfl) mlen PySem.boot_len (pa_cons (pv 0) pa_nil)) pe_int (nomark _)))).pt
        (pss_one (ps_set (i := 5) scStep.nd rfl (Or.inl rfl) (pe_ix ix_tup (pv 0) (pe_op op_mod (pe_op op_fdiv (pv 4) pe_int) (pe_callB call_len_seq (by rfl) mlen PySem.boot_len (pa_cons (pv 0) pa_nil))) (fun _ _ => rfl)))) pss_nil))
      (pss_cons (ps_mid (ps_if (pw_and (pt_cmpR op_eq (pe_op op_mod (pv 4) pe_int) pe_int (nomark _)) (pw_and1 (pt_cmpR op_lt (pv 1) (pe_callB call_len_seq (by rfl) mlen PySem.boot_len (pa_cons (pv 0) pa_nil)) (nomark _)))).pt
        (pss_one (ps_set (i := 5) scStep.nd rfl (Or.inl rfl) (pe_call GO hr (by rfl) DO.at_ DO.fn.kp DO.bn .nil pass0 (pa_cons (pe_ix ix_tup (pv 0) (pv 1) (fun _ _ => rfl)) (pa_cons (pe_op op_fdiv (pv 4) pe_int) (pa_cons (pe_op op_fdiv (pv 4) pe_int) pa_nil)))))) pss_nil))
      (pss_cons (ps_if (pw_or (pt_cmpR op_eq (pv 3) pe_str (nomark _)) (pw_or1 (pt_cmpR op_eq (pv 3) pe_str (nomark _)))).pt (pss_one (ps_ret (pe_tup (pa_cons (pv 3) (pa_cons (pv 5) pa_nil))))) pss_nil)
      (pss_cons (ps_if (pt_cmpR op_eq (pv 3) pe_str (nomark _))
        (pss_cons (ps_setC (i := 6) (Nc := ["k", "done", "elder"]) (mp := [none, some 1, some 0]) rfl scStep.nd rfl rfl (CompOk.of (by rfl)) (pi_range2 (by rfl) mrange (pa_cons pe_int (pa_cons (pe_op op_add (pe_op op_sub (pe_callB call_len_seq (by rfl) mlen PySem.boot_len (pa_cons (pv 0) pa_nil)) (pv 1)) pe_int) pa_nil)))
          (fun cl C s H fp => ⟨pg_name (i := 0) nd_kde rfl (Or.inl rfl), pts_one (pw_and (pt_cmpR op_gt (pv 1) pe_int (nomark _)) (pw_and1 (pt_cmpR op_eq (pe_ix (ix_tupK (K := K) rfl) (pv 2) (pe_op op_sub (pe_op op_add (pv 1) (pv 0)) pe_int) (fun _ _ => rfl)) (pe_ix (ix_tupK (K := K) rfl) (pv 2) (pe_op op_sub (pv 1) pe_int) (fun _ _ => rfl)) (nomark _)))).pt, pv 0⟩))
        (pss_cons (ps_if (pw_and (pt_cmpR op_gt (pe_callB call_len_seq (by rfl) mlen PySem.boot_len (pa_cons (pv 6) pa_nil)) pe_int (nomark _)) (pw_and1 (pt_cmpR op_gt (pe_op op_mod (pv 4) pe_int) pe_int (nomark _)))).pt
          (pss_one (ps_ret (pe_tup (pa_cons (pv 3) (pa_cons (pe_ix ix_list (pv 6) (pe_op op_mod (pe_op op_fdiv (pv 4) pe_int) (pe_callB call_len_seq (by rfl) mlen PySem.boot_len (pa_cons (pv 6) pa_nil))) (fun _ _ => rfl)) pa_nil))))) pss_nil)
        (pss_one (ps_ret (pe_tup (pa_cons (pv 3) (pa_cons (pe_op op_add pe_int (pe_op op_mod (pv 4) (pe_op op_add (pe_callB call_len_seq (by rfl) mlen PySem.boot_len (pa_cons (pv 0) pa_nil)) pe_int))) pa_nil))))))) pss_nil)
      (pss_one (ps_ret (pe_tup (pa_cons (pv 3) pa_nil)))))))))), ?_⟩
    have z1 : (1 : Nat) ≤ sizeLine := few (by omega)
    have z2 : (2 : Nat) ≤ sizeLine := few (by omega)
    have hlen : (es.map V.str).length = es.length := List.length_map ..
    refine ⟨few (by show 8 ≤ _; omega), fun l hl => ?_⟩
    obtain ⟨kv, hkv, ekv⟩ := pick [V.str (Str.ofString "keep"), .str (Str.ofString "keep"), .str (Str.ofString "turn"), .str (Str.ofString "lose"), .str (Str.ofString "add"), .str (Str.ofString "twice"), .str (Str.ofString "swap"), .str (Str.ofString "skip")] c 8 rfl (by decide)
    refine ⟨_, rfl, _, _, rfl, rfl, (by show (0 : Int) < 8; decide), l, _, _, kv, rfl, rfl, SqL.of upd_same, ekv, ?_⟩
    have S : Same H (upd H l (.lst [V.str (Str.ofString "keep"), .str (Str.ofString "keep"), .str (Str.ofString "turn"), .str (Str.ofString "lose"), .str (Str.ofString "add"), .str (Str.ofString "twice"), .str (Str.ofString "swap"), .str (Str.ofString "skip")])) := same_upd hl
    generalize hH1 : upd H l (.lst [V.str (Str.ofString "keep"), .str (Str.ofString "keep"), .str (Str.ofString "turn"), .str (Str.ofString "lose"), .str (Str.ofString "add"), .str (Str.ofString "twice"), .str (Str.ofString "swap"), .str (Str.ofString "skip")]) = H1 at S
    have hp1 : SqT K H1 p (es.map V.str) := seqT S hp
    refine ⟨_, rfl, _, _, rfl, rfl, ⟨by decide, by decide⟩, ?_⟩
    refine ⟨_, rfl, _, _, rfl, rfl, ⟨by decide, by decide⟩, _, rfl, fun z0 hz0 => ?_⟩
    refine ⟨fun σ' H' => ∃ z, Good z ∧ σ' = [some (.ref p), some (.int (d : Nat)), some (.int c), some kv, some (.int (c / 8)), some (.str z), none] ∧ H' = H1, ?_, ?_⟩
    · refine ⟨_, rfl, _, _, rfl, rfl, (by show (0 : Int) < 3; decide), rfl, _, rfl, ?_⟩
      refine ite2 (fun _ => ?_) (fun _ => iteF ⟨z0, hz0, rfl, rfl⟩)
      refine ⟨_, rfl, p, _, rfl, .inr hp1, _, _, rfl, rfl, _, rfl, ?_⟩
      refine ite2 (fun h => ?_) (fun _ => ⟨z0, hz0, rfl, rfl⟩)
      have h0 := of_decide_eq_true h
      rw [hlen] at h0
      obtain ⟨z, hz, e⟩ := word_at (ws := es) (n := c / 8 / 3) (by omega)
      rw [← hlen] at e
      exact ⟨_, rfl, _, rfl, _, _, rfl, rfl, ⟨by decide, by decide⟩, _, rfl, p, _, rfl, .inr hp1, _, _, rfl, rfl, (by show (0 : Int) < ((es.map V.str).length : Int); rw [hlen]; omega), p, _, _, _, rfl, rfl, hp1, e, z, hg z hz, rfl, rfl⟩
    · rintro σ' H' ⟨z1', hz1, rfl, rfl⟩
      refine ⟨fun σ' H'' => ∃ z, Good z ∧ σ' = [some (.ref p), some (.int (d : Nat)), some (.int c), some kv, some (.int (c / 8)), some (.str z), none] ∧ H'' = H', ?_, ?_⟩
      · refine ⟨_, rfl, _, _, rfl, rfl, (by show (0 : Int) < 3; decide), rfl, _, rfl, ?_⟩
        refine ite2 (fun _ => ?_) (fun _ => iteF ⟨z1', hz1, rfl, rfl⟩)
        refine ⟨_, rfl, _, rfl, p, _, rfl, .inr hp1, _, _, rfl, rfl, _, rfl, ?_⟩
        refine ite2 (fun h => ?_) (fun _ => ⟨z1', hz1, rfl, rfl⟩)
        have h0 := of_decide_eq_true h
        rw [hlen] at h0
        exact ⟨_, rfl, _, rfl, p, _, _, _, rfl, rfl, hp1, at_w (by omega), _, rfl, _, _, rfl, rfl, ⟨by decide, by decide⟩, _, rfl, _, _, rfl, rfl, ⟨by decide, by decide⟩, gt es d, _, _, rfl, hg _ (gt_mem (by omega)), fun z2 hz2 => ⟨z2, hz2, rfl, rfl⟩⟩
      · rintro σ' H'' ⟨z, hz, rfl, rfl⟩
        have go : ∀ (H2 : Hp), Same H'' H2 → ∀ st, okS st → ∀ t, H2 t = none → Q2 (.ref t) (upd H2 t (.tup (stepV st))) := fun H2 S2 st ho t ht => hq _ _ (Rst.one ((S.trans S2).trans (same_upd ht)) ((S.trans S2).free ht) upd_same trivial (q st ho t ((S.trans S2).free ht)))
        have go0 := go H'' (Same.refl _)
        simp only [List.mem_cons, List.not_mem_nil, or_false] at hkv
        rcases hkv with rfl | rfl | rfl | rfl | rfl | rfl | rfl | rfl
        · refine ⟨_, rfl, rfl, _, rfl, iteK (by decide +kernel) ⟨_, rfl, rfl, _, rfl, iteK (by decide +kernel) ?_⟩⟩
          exact ⟨_, rfl, rfl, _, rfl, iteK (by decide +kernel) ⟨_, rfl, z1, go0 .keep trivial⟩⟩
        · refine ⟨_, rfl, rfl, _, rfl, iteK (by decide +kernel) ⟨_, rfl, rfl, _, rfl, iteK (by decide +kernel) ?_⟩⟩
          exact ⟨_, rfl, rfl, _, rfl, iteK (by decide +kernel) ⟨_, rfl, z1, go0 .keep trivial⟩⟩
        · exact ⟨_, rfl, rfl, _, rfl, iteY rfl (iteT ⟨_, rfl, _, rfl, z2, go0 (.turn z) hz⟩)⟩
        · refine ⟨_, rfl, rfl, _, rfl, iteK (by decide +kernel) ⟨_, rfl, rfl, _, rfl, iteK (by decide +kernel) ?_⟩⟩
          exact ⟨_, rfl, rfl, _, rfl, iteK (by decide +kernel) ⟨_, rfl, z1, go0 .lose trivial⟩⟩
        · exact ⟨_, rfl, rfl, _, rfl, iteK (by decide +kernel) ⟨_, rfl, rfl, _, rfl, iteY rfl ⟨_, rfl, _, rfl, z2, go0 (.add z) hz⟩⟩⟩
        · refine ⟨_, rfl, rfl, _, rfl, iteK (by decide +kernel) ⟨_, rfl, rfl, _, rfl, iteK (by decide +kernel) ?_⟩⟩
          exact ⟨_, rfl, rfl, _, rfl, iteK (by decide +kernel) ⟨_, rfl, z1, go0 .twice trivial⟩⟩
        · refine ⟨_, rfl, rfl, _, rfl, iteK (by decide +kernel) ⟨_, rfl, rfl, _, rfl, iteK (by decide +kernel) ?_⟩⟩
          exact ⟨_, rfl, rfl, _, rfl, iteK (by decide +kernel) ⟨_, rfl, z1, go0 .swap trivial⟩⟩
        · refine ⟨_, rfl, rfl, _, rfl, iteK (by decide +kernel) ⟨_, rfl, rfl, _, rfl, iteK (by decide +kernel) ?_⟩⟩
          refine ⟨_, rfl, rfl, _, rfl, iteY rfl ?_⟩
          refine ⟨_, rfl, p, _, rfl, .inr hp1, _, rfl, _, _, rfl, rfl, _, _, rfl, rfl, 1, _, rfl, ⟨by decide, by decide, by rw [hlen]; omega, by rw [hlen]; omega⟩, ?_⟩
          have en : ((((es.map V.str).length : Int) - ((d : Nat) : Int) + 1) - 1).toNat = es.length - d := by rw [hlen]; omega
          rw [en]
          refine comp_pure (as := List.range (es.length - d)) (v := fun i => .int (1 + ((i : Nat) : Int))) (fun i => decide ((0 : Int) < ((d : Nat) : Int)) && decide (V.str (gt es (d + i)) = V.str (gt es (d - 1)))) (fun i => .int (1 + ((i : Nat) : Int))) (src_range 1 (es.length - d) H'') (by rw [List.length_range]; exact few (by omega)) (fun i hi k hk => ?_) (fun i hi _ k hk => ⟨_, rfl, hk⟩) (fun D hD => ?_)
          · have hi' := List.mem_range.mp hi
            refine ⟨_, rfl, _, _, rfl, rfl, _, rfl, ?_⟩
            by_cases h0 : (0 : Int) < ((d : Nat) : Int)
            · refine iteY h0 ?_
              have e1 : ((d : Nat) : Int) + (1 + ((i : Nat) : Int)) - 1 = ((d + i : Nat) : Int) := by omega
              have e2 : ((d : Nat) : Int) - 1 = ((d - 1 : Nat) : Int) := by omega
              refine ⟨_, rfl, _, rfl, _, rfl, _, _, rfl, rfl, _, _, rfl, rfl, p, _, _, _, rfl, rfl, hp1, (by rw [e1]; exact at_w (by omega)), _, rfl, _, rfl, _, _, rfl, rfl, p, _, _, _, rfl, rfl, hp1, (by rw [e2]; exact at_w (by omega)), rfl, _, rfl, ?_⟩
              rw [decide_eq_true h0, Bool.true_and] at hk
              exact hk
            · refine iteK h0 ?_
              rw [decide_eq_false h0, Bool.false_and] at hk
              exact hk
          · generalize hms : (List.range (es.length - d)).filter (fun i => decide ((0 : Int) < ((d : Nat) : Int)) && decide (V.str (gt es (d + i)) = V.str (gt es (d - 1)))) = ms
            have hmb : ∀ i ∈ ms, i < es.length := fun i hi => by
              rw [← hms] at hi
              have := List.mem_range.mp (List.mem_filter.mp hi).1
              omega
            have hml : (ms.map fun i => V.int (1 + ((i : Nat) : Int))).length = ms.length := List.length_map ..
            have SD := same_upd (o := .lst (ms.map fun i => V.int (1 + ((i : Nat) : Int)))) hD
            have tail : ∃ c0, (V.int (1 + (c / 8) % ((es.length : Int) + 2))) = V.int ((c0 : Nat) : Int) ∧ 1 ≤ c0 ∧ c0 ≤ 1000 := by
              have a1 := Int.emod_nonneg (c / 8) (show ((es.length : Int) + 2) ≠ 0 by omega)
              have a2 := Int.emod_lt_of_pos (c / 8) (show 0 < ((es.length : Int) + 2) by omega)
              exact ⟨(1 + (c / 8) % ((es.length : Int) + 2)).toNat, by congr 1; omega, by omega, by omega⟩
            obtain ⟨c0, ec0, h10, h20⟩ := tail
            have last : ∀ t, upd H'' D (.lst (ms.map fun i => V.int (1 + ((i : Nat) : Int)))) t = none → Q2 (.ref t) (upd (upd H'' D (.lst (ms.map fun i => V.int (1 + ((i : Nat) : Int))))) t (.tup [.str (Str.ofString "skip"), .int (1 + (c / 8) % ((es.length : Int) + 2))])) := fun t ht => by
              rw [ec0]
              exact go _ SD (.skip c0) ⟨h10, h20⟩ t ht
            rw [← hlen] at last
            refine ⟨_, rfl, D, _, rfl, .inl (SqL.of upd_same), _, _, rfl, rfl, _, rfl, ?_⟩
            refine ite2 (fun h => ?_) (fun h => iteF ⟨_, rfl, _, rfl, _, rfl, p, _, rfl, .inr (seqT SD hp1), _, _, rfl, rfl, _, _, rfl, rfl, (by show (0 : Int) < ((es.map V.str).length : Int) + 2; omega), _, _, rfl, rfl, z2, last⟩)
            have h0 := of_decide_eq_true h
            refine ⟨_, rfl, _, _, rfl, rfl, (by show (0 : Int) < 4; decide), _, _, rfl, rfl, _, rfl, ?_⟩
            refine ite2 (fun h4 => ?_) (fun h4 => ⟨_, rfl, _, rfl, _, rfl, p, _, rfl, .inr (seqT SD hp1), _, _, rfl, rfl, _, _, rfl, rfl, (by show (0 : Int) < ((es.map V.str).length : Int) + 2; omega), _, _, rfl, rfl, z2, last⟩)
            obtain ⟨i, hi, ei⟩ := pick ms (c / 8 / 4) ms.length rfl (by rw [hml] at h0; omega)
            have ei' := atI_map (g := fun i : Nat => V.int (1 + ((i : Nat) : Int))) ei
            rw [← hml] at ei'
            refine ⟨_, rfl, _, rfl, _, rfl, _, _, rfl, rfl, ⟨by decide, by decide⟩, _, rfl, D, _, rfl, .inl (SqL.of upd_same), _, _, rfl, rfl, h0, D, _, _, _, rfl, rfl, SqL.of upd_same, ei', z2, fun t ht => ?_⟩
            have e5 : V.int (1 + ((i : Nat) : Int)) = V.int ((i + 1 : Nat) : Int) := by congr 1; omega
            have := go _ SD (.skip (i + 1)) ⟨by omega, by have := hmb i hi; omega⟩ t ht
            show Q2 (.ref t) (upd _ t (.tup [.str (Str.ofString "skip"), .int (1 + ((i : Nat) : Int))]))
            rw [e5]
            exact this
/-! ### steps_walked, copy_made -/
theorem upd_mono {H H' : Hp} {t : Addr} {o : HO} (S : Same H H') : Same (upd H t o) (upd H' t o) := fun a u e => by
  by_cases ha : a = t
  · subst ha; rw [upd_same] at e ⊢; exact e
  · rw [upd_ne ha] at e ⊢; exact S a u e
theorem new_upd {H : Hp} {t : Addr} {o : HO} (n : newO o) : ∀ a u, upd H t o a = some u → H a = some u ∨ newO u := fun a u e => by
  by_cases ha : a = t
  · subst ha; rw [upd_same] at e; cases e; exact .inr n
  · rw [upd_ne ha] at e; exact .inl e
/-- three objects are left behind -/
theorem rst_three {H H' : Hp} {Q : Hp → Prop} {t p r : Addr} {o1 o2 o3 : HO} (S : Same H H') (ht : H' t = none) (hp : upd H' t o1 p = none) (hr : upd (upd H' t o1) p o2 r = none) (n1 : newO o1) (n2 : newO o2) (n3 : newO o3) (q : Q (upd (upd (upd H t o1) p o2) r o3)) : Rst H (upd (upd (upd H' t o1) p o2) r o3) Q :=
  Rst.more (same_upd (S.free ht)) (new_upd n1) (rst_two (upd_mono S) hp hr n2 n3 q)
def nV (n : Nat) : V := .int (n : Nat)
def spWalk (K : PySem.W.Frag) (C : Addr) : Sp := fun vs H Q E => ∃ (p q : Addr) (es : List Str) (ts : List Addr) (sts : List Sk), vs = [.ref p, .ref q] ∧ SqT K H p (es.map V.str) ∧ SqT K H q (ts.map V.ref) ∧ StepsAt K H ts sts ∧ sts.length ≤ 1000 ∧
  match made es sts with
  | some (cp, pl) => ∀ a b r, H a = none → H b = none → H r = none → b ≠ a → r ≠ a → r ≠ b → Q (.ref r) (upd (upd (upd H a (.tup (cp.map V.str))) b (.tup (pl.map nV))) r (.tup [.ref a, .ref b]))
  | none => E (.ref C) none H
theorem scWalk : FnScope ["elder", "steps", "copy", "places", "done", "step", "last", "after"] ["elder", "steps"] (defScope sWalk) := ⟨rfl, rfl, rfl, by decide +kernel, rfl, by decide +kernel, by decide +kernel⟩
theorem ok_walk {f gA C : Addr} {fd dA : FuncData} (F : Fun K "steps_walked" "steps_walked" sWalk f fd) (DA : Dfn K mg "step_after" sAfter gA dA ["elder", "done", "last", "step"]) (GA : FnOk P w K mg base (CXv P w) 3 gA dA ["elder", "done", "last", "step"] (spAfter K C))
    (mC : mg "NoSlips" = some (.ref C)) (xC : VEx K C) (mlen : mg "len" = none) (mtup : mg "tuple" = none) {tw : Tok} (mW : mg "MOST_WORDS" = some (.int 40 tw)) : FnOk P w K mg base (CXv P w) 4 f fd ["elder", "steps"] (spWalk K C) := by
  refine Fun.okXR F scWalk (fun vs H Q E h => ?_) (fun cdv A outer s H vs Q Q2 E E2 hr h hq hE => ?_)
  · obtain ⟨p, q, es, ts, sts, rfl, _⟩ := h
    rfl
  · obtain ⟨p, q0, es, ts, sts, rfl, hp, hts, hst, hsl, q⟩ := h
    refine ⟨_, PSs.fly (pss_cons (ps_set (i := 2) scWalk.nd rfl (Or.inl rfl) (pe_lst pa_nil))
      (pss_cons (ps_set (i := 3) scWalk.nd rfl (Or.inl rfl) (pe_lst pa_nil))
      (pss_cons (ps_set (i := 4) scWalk.nd rfl (Or.inl rfl) pe_int)
      (pss_cons (ps_for passF rfl (pi_tup (pv 1)) (pg_name (i := 5) scWalk.nd rfl (Or.inl rfl))
        (pss_cons (ps_mid (ps_set (i := 6) scWalk.nd rfl (Or.inl rfl) (pe_ifExp (pt_cmpR op_gt (pe_callB call_len_seq (by rfl) mlen PySem.boot_len (pa_cons (pv 2) pa_nil)) pe_int (nomark _)) (pe_ix ix_list (pv 2) (pe_un un_neg pe_int) (fun _ _ => rfl)) pe_non)))
        (pss_cons (ps_set (i := 7) scWalk.nd rfl (Or.inl rfl) (pe_call GA hr (by rfl) DA.at_ DA.fn.kp DA.bn .nil passesF (pa_cons (pv 0) (pa_cons (pv 4) (pa_cons (pv 6) (pa_cons (pv 5) pa_nil))))))
        (pss_cons (ps_expr (pe_bm PySem.F.plainAttrs_list PySem.F.slot_list_append PySem.F.type_list_append mt_append (pv 3) (pa_cons (pv 4) pa_nil)))
        (pss_cons (ps_set (i := 4) scWalk.nd rfl (Or.inl rfl) (pe_ix ix_tup (pv 7) pe_int (fun _ _ => rfl)))
        (pss_one (ps_expr (pe_bm PySem.F.plainAttrs_list PySem.F.slot_list_extend PySem.F.type_list_extend mt_extendT (pv 2) (pa_cons (pe_ix ix_tup (pv 7) pe_int (fun _ _ => rfl)) pa_nil)))))))))
      (pss_cons (ps_if (pt_cmpR op_lt (pv 4) (pe_callB call_len_seq (by rfl) mlen PySem.boot_len (pa_cons (pv 0) pa_nil)) (nomark _)) (pss_one (ps_raise rfl (by rfl) mC xC landsF pe_str)) pss_nil)
      (pss_cons (ps_if (pt_cmpR op_gt (pe_callB call_len_seq (by rfl) mlen PySem.boot_len (pa_cons (pv 2) pa_nil)) (pe_glob (v := .int 40) (by rfl) mW ⟨_, rfl⟩) (nomark _)) (pss_one (ps_raise rfl (by rfl) mC xC landsF pe_str)) pss_nil)
      (pss_one (ps_ret (pe_tup (pa_cons (pe_callTy call_tuple_of (by rfl) mtup boot_tuple (pa_cons (pv 2) pa_nil)) (pa_cons (pe_callTy call_tuple_of (by rfl) mtup boot_tuple (pa_cons (pv 3) pa_nil)) pa_nil))))))))))), ?_⟩
    have z1 : (1 : Nat) ≤ sizeLine := few (by omega)
    refine ⟨Nat.zero_le _, fun l1 hl1 => ?_⟩
    refine ⟨Nat.zero_le _, fun l2 hl2 => ?_⟩
    obtain ⟨n21, hl2H⟩ := free_ne hl2
    have S0 : Same H (upd (upd H l1 (.lst [])) l2 (.lst [])) := (same_upd hl1).trans (same_upd hl2)
    have nn : made es sts = none → ∀ H', Same H H' → E2 (.ref C) none H' := fun e H' S => by
      rw [e] at q
      exact hE _ _ _ (Rst.same S q)
    refine ⟨_, rfl, q0, rfl, ⟨_, sameT S0 hts⟩, for_tup (K := K) (a := q0) (xs := ts.map V.ref) (fun i σ H2 => ∃ (d : Nat) (cp : List Str) (pl : List Nat) (v5 v6 v7 : Option V), σ = [some (.ref p), some (.ref q0), some (.ref l1), some (.ref l2), some (.int (d : Nat)), v5, v6, v7] ∧
      H2 l1 = some (.lst (cp.map V.str)) ∧ H2 l2 = some (.lst (pl.map nV)) ∧ Same H H2 ∧ walk es (sts.take i) (0, [], []) = some (d, cp, pl) ∧ cp.length ≤ 2 * i ∧ pl.length = i)
      ⟨0, [], [], none, none, none, rfl, by rw [upd_ne (Ne.symm n21)]; exact upd_same, upd_same, S0, rfl, Nat.le_refl _, rfl⟩ (fun i σ H2 _ ⟨_, _, _, _, _, _, _, _, _, S, _⟩ => sameT S hts) ?_ ?_⟩
    · rintro i y σ H2 hi ⟨d, cp, pl, v5, v6, v7, rfl, h1, h2, S, hw, hcl, hpl⟩
      obtain ⟨t, hti, rfl⟩ := ref_at hi
      have hil : i < ts.length := (List.getElem?_eq_some_iff.mp hti).1
      have hil' : i < sts.length := by rw [← hst.len]; exact hil
      have hsi : sts[i]? = some sts[i] := List.getElem?_eq_getElem hil'
      generalize hgs : sts[i] = st at hsi
      obtain ⟨hT, hO⟩ := hst.item i t st hti hsi
      have hT2 := sameT S hT
      have wt := walk_turn hsi hw
      refine ⟨fun σ' H' => σ' = [some (.ref p), some (.ref q0), some (.ref l1), some (.ref l2), some (.int (d : Nat)), some (.ref t), some (optS cp.getLast?), v7] ∧ H' = H2, ?_, ?_⟩
      · refine ⟨_, rfl, l1, _, rfl, .inl (SqL.of h1), _, _, rfl, rfl, _, rfl, ?_⟩
        refine ite2 (fun h => ?_) (fun h => ?_)
        · have h0 := of_decide_eq_true h
          rw [List.length_map] at h0
          obtain ⟨l, el, al⟩ := last_at (cp := cp) (by omega)
          refine ⟨_, rfl, _, rfl, l1, _, _, _, rfl, rfl, SqL.of h1, al, ?_, rfl⟩
          rw [el]; rfl
        · have h0 : ¬ ((0 : Int) < ((cp.map V.str).length : Int)) := fun c => h (decide_eq_true c)
          rw [List.length_map] at h0
          have e0 : cp = [] := List.eq_nil_of_length_eq_zero (by omega)
          subst e0
          exact ⟨rfl, rfl⟩
      · rintro σ' H' ⟨rfl, rfl⟩
        refine ⟨_, rfl, _, rfl, _, rfl, _, rfl, p, t, es, d, cp.getLast?, st, rfl, sameT S hp, hT2, hO, ?_⟩
        cases ha : after es d cp.getLast? st with
        | none =>
          rw [ha] at wt
          exact nn (walk_stop wt) _ S
        | some y =>
          obtain ⟨d', ws⟩ := y
          rw [ha] at wt
          have hwl : ws.length ≤ 2 := after_len ha
          intro t1 r1 ht1 hr1 hne
          have f1 : upd H' t1 (.tup (ws.map V.str)) r1 = none := by rw [upd_ne hne]; exact hr1
          have S1 := (same_upd (o := .tup (ws.map V.str)) ht1).trans (same_upd (o := .tup [.int (d' : Nat), .ref t1]) f1)
          generalize hH3 : upd (upd H' t1 (.tup (ws.map V.str))) r1 (.tup [.int (d' : Nat), .ref t1]) = H3 at S1
          have g1 : H3 r1 = some (.tup [.int (d' : Nat), .ref t1]) := by rw [← hH3]; exact upd_same
          have g2 : H3 t1 = some (.tup (ws.map V.str)) := by rw [← hH3, upd_ne (Ne.symm hne)]; exact upd_same
          have k1 := S1 _ _ h1
          have k2 := S1 _ _ h2
          have n12 : l1 ≠ l2 := Ne.symm n21
          have nr2 : r1 ≠ l2 := Ne.symm (ne_of_none h2 hr1)
          have nt2 : t1 ≠ l2 := Ne.symm (ne_of_none h2 ht1)
          have nt1 : t1 ≠ l1 := Ne.symm (ne_of_none h1 ht1)
          refine ⟨_, rfl, .inl ⟨rfl, _, SqL.of k2⟩, _, rfl, l2, _, _, rfl, rfl, k2, (by rw [List.length_map]; exact fewer (by omega)), ?_⟩
          refine ⟨_, rfl, r1, _, _, _, rfl, rfl, SqT.of (by rw [upd_ne nr2]; exact g1), rfl, ?_⟩
          have k1' : upd H3 l2 (.lst (pl.map nV ++ [.int (d : Nat)])) l1 = some (.lst (cp.map V.str)) := by rw [upd_ne n12]; exact k1
          refine ⟨_, rfl, .inl ⟨rfl, _, SqL.of k1'⟩, _, rfl, r1, _, _, _, rfl, rfl, SqT.of (by rw [upd_ne nr2]; exact g1), rfl, l1, t1, _, _, rfl, rfl, k1', SqT.of (by rw [upd_ne nt2]; exact g2), (by rw [List.length_map, List.length_map]; exact few (by omega)), ?_⟩
          refine ⟨d', cp ++ ws, pl ++ [d], _, _, _, rfl, ?_, ?_, ?_, wt, ?_, ?_⟩
          · rw [upd_same, List.map_append]
          · rw [upd_ne (Ne.symm n12), upd_same, List.map_append]; rfl
          · exact same_to (same_to (S.trans S1) hl2H) hl1
          · rw [List.length_append]; omega
          · rw [List.length_append, hpl]; rfl
    · rintro σ H2 ⟨d, cp, pl, v5, v6, v7, rfl, h1, h2, S, hw, hcl, hpl⟩
      rw [List.length_map, hst.len, List.take_length] at hw
      rw [List.length_map] at hcl
      have hp2 := sameT S hp
      have hlen : (es.map V.str).length = es.length := List.length_map ..
      refine ⟨_, rfl, _, rfl, p, _, rfl, .inr hp2, _, _, rfl, rfl, _, rfl, ?_⟩
      rw [hlen]
      refine ite2 (fun h => ⟨z1, nn ?_ _ S⟩) (fun h => ?_)
      · have h0 := of_decide_eq_true h
        unfold made
        rw [hw]
        show (if d < es.length ∨ 40 < cp.length then none else some (cp, pl)) = none
        rw [if_pos (.inl (by omega))]
      have hd : ¬ (((d : Nat) : Int) < (es.length : Int)) := fun c => h (decide_eq_true c)
      refine ⟨_, rfl, l1, _, rfl, .inl (SqL.of h1), _, _, rfl, rfl, _, rfl, ?_⟩
      rw [List.length_map]
      refine ite2 (fun h4 => ⟨z1, nn ?_ _ S⟩) (fun h4 => ?_)
      · have h0 := of_decide_eq_true h4
        unfold made
        rw [hw]
        show (if d < es.length ∨ 40 < cp.length then none else some (cp, pl)) = none
        rw [if_pos (.inr (by omega))]
      have hc : ¬ ((40 : Int) < (cp.length : Int)) := fun c => h4 (decide_eq_true c)
      have em : made es sts = some (cp, pl) := by
        unfold made
        rw [hw]
        show (if d < es.length ∨ 40 < cp.length then none else some (cp, pl)) = _
        rw [if_neg (by omega)]
      rw [em] at q
      refine ⟨_, rfl, l1, _, rfl, .inl ⟨SqL.of h1, fun a ha => ?_⟩⟩
      refine ⟨_, rfl, l2, _, rfl, .inl ⟨SqL.of (same_upd ha _ _ h2), fun b hb => ⟨few (by show 2 ≤ _; omega), fun r hr' => ?_⟩⟩⟩
      obtain ⟨nb, hb1⟩ := free_ne hb
      obtain ⟨nr, hr1⟩ := free_ne hr'
      obtain ⟨nr2, hr2⟩ := free_ne hr1
      exact hq _ _ (rst_three S ha hb hr' trivial trivial trivial (q a b r (S.free ha) (S.free hb1) (S.free hr2) nb nr2 nr))
def spCopy (K : PySem.W.Frag) (C : Addr) : Sp := fun vs H Q E => ∃ (p q : Addr) (es : List Str) (ts : List Addr) (sts : List Sk), vs = [.ref p, .ref q] ∧ SqT K H p (es.map V.str) ∧ SqT K H q (ts.map V.ref) ∧ StepsAt K H ts sts ∧ sts.length ≤ 1000 ∧
  match made es sts with
  | some (cp, pl) => ∀ a, H a = none → Q (.ref a) (upd H a (.tup (cp.map V.str)))
  | none => E (.ref C) none H
theorem scCopy : FnScope ["elder", "steps"] ["elder", "steps"] (defScope sCopy) := ⟨rfl, rfl, rfl, by decide +kernel, rfl, by decide +kernel, by decide +kernel⟩
theorem ok_copy {f gW C : Addr} {fd dW : FuncData} (F : Fun K "copy_made" "copy_made" sCopy f fd) (DW : Dfn K mg "steps_walked" sWalk gW dW ["elder", "steps"]) (GW : FnOk P w K mg base (CXv P w) 4 gW dW ["elder", "steps"] (spWalk K C)) : FnOk P w K mg base (CXv P w) 5 f fd ["elder", "steps"] (spCopy K C) := by
  refine Fun.okXR F scCopy (fun vs H Q E h => ?_) (fun cdv A outer s H vs Q Q2 E E2 hr h hq hE => ?_)
  · obtain ⟨p, q, es, ts, sts, rfl, _⟩ := h
    rfl
  · obtain ⟨p, q0, es, ts, sts, rfl, hp, hts, hst, hsl, q⟩ := h
    refine ⟨_, pss_one (ps_ret (pe_ix ix_tup (pe_call GW hr (by rfl) DW.at_ DW.fn.kp DW.bn .nil passes_def (pa_cons (pv 0) (pa_cons (pv 1) pa_nil))) pe_int (fun _ _ => rfl))), ?_⟩
    refine ⟨_, rfl, _, rfl, p, q0, es, ts, sts, rfl, hp, hts, hst, hsl, ?_⟩
    cases hm : made es sts with
    | none =>
      rw [hm] at q
      exact hE _ _ _ (Rst.same (Same.refl H) q)
    | some y =>
      obtain ⟨cp, pl⟩ := y
      rw [hm] at q
      intro a b r ha hb hr' n1 n2 n3
      have s1 := same_upd (o := .tup (cp.map V.str)) ha
      have s2 := same_upd (o := .tup (pl.map nV)) (show upd H a (.tup (cp.map V.str)) b = none by rw [upd_ne n1]; exact hb)
      have s3 := same_upd (o := .tup [.ref a, .ref b]) (show upd (upd H a (.tup (cp.map V.str))) b (.tup (pl.map nV)) r = none by rw [upd_ne n3, upd_ne n2]; exact hr')
      refine ⟨r, _, _, _, rfl, rfl, SqT.of upd_same, rfl, hq _ _ (Rst.one ((s1.trans s2).trans s3) ha (s3 _ _ (s2 _ _ upd_same)) trivial (q a ha))⟩
/-! ### the law's own rows of steps -/
theorem sqT_upd {H : Hp} {a l : Addr} {xs ys : List V} {o : HO} (h : SqT K H a xs) (hl : H l = some (.lst ys)) : SqT K (upd H l o) a xs := by
  rcases h with (h | ⟨o', h⟩) | h
  · have n : a ≠ l := fun e => by rw [e, hl] at h; cases h
    exact .inl (.inl (by rw [upd_ne n]; exact h))
  · have n : a ≠ l := fun e => by rw [e, hl] at h; cases h
    exact .inl (.inr ⟨o', by rw [upd_ne n]; exact h⟩)
  · exact .inr h
theorem stepsAt_upd {H : Hp} {l : Addr} {ts : List Addr} {sts : List Sk} {ys : List V} {o : HO} (h : StepsAt K H ts sts) (hl : H l = some (.lst ys)) : StepsAt K (upd H l o) ts sts :=
  ⟨h.len, fun i t st e1 e2 => ⟨sqT_upd (h.item i t st e1 e2).1 hl, (h.item i t st e1 e2).2⟩⟩
def spSteps (K : PySem.W.Frag) : Sp := fun vs H Q _ => ∃ (p c : Addr) (es : List Str) (ns : List Int) (g : Bool), vs = [.ref p, .ref c, .bl g] ∧ SqT K H p (es.map V.str) ∧ (∀ z ∈ es, Good z) ∧ es.length ≤ 100 ∧ SqL K H c (ns.map V.int) ∧ ns.length ≤ 63 ∧
  ∀ (H' : Hp) (r a b : Addr) (ts : List Addr) (sts : List Sk) (d : Nat) (cp : List Str), Same H H' → H' r = some (.lst [.ref a, .int (d : Nat), .ref b]) → H' a = some (.lst (ts.map V.ref)) → StepsAt K H' ts sts → d ≤ es.length → sts.length ≤ ns.length → cp.length ≤ 40 →
    (g = true → ∃ pl, walk es sts (0, [], []) = some (d, cp, pl)) → Q (.ref r) H'
theorem scSteps : FnScope ["elder", "cells", "good", "steps", "copy", "done", "cell", "step", "last", "after"] ["elder", "cells", "good"] (defScope sSteps) := ⟨rfl, rfl, rfl, by decide +kernel, rfl, by decide +kernel, by decide +kernel⟩
theorem ok_steps {f gS gL : Addr} {fd dS dL : FuncData} (F : Fun K "_law_steps" "_law_steps" sSteps f fd) (DS : Dfn K mg "_law_step" sStep gS dS ["elder", "done", "cell"]) (DL : Dfn K mg "_law_after" sLAfter gL dL ["elder", "done", "last", "step"])
    (GS : FnOk P w K mg base CX0 2 gS dS ["elder", "done", "cell"] (spStep K)) (GL : FnOk P w K mg base CX0 2 gL dL ["elder", "done", "last", "step"] (spLAfter K)) (mlen : mg "len" = none) : FnOk P w K mg base CX0 3 f fd ["elder", "cells", "good"] (spSteps K) := by
  refine F.ok scSteps (fun vs H Q E h => ?_) (fun cdv A outer s H vs Q E hr h => ?_)
  · obtain ⟨p, c, es, ns, g, rfl, _⟩ := h
    rfl
  · obtain ⟨p, c, es, ns, g, rfl, hp, hg, hel, hc, hn, q⟩ := h
    refine ⟨_, pss_cons (ps_set (i := 3) scSteps.nd rfl (Or.inl rfl) (pe_lst pa_nil))
      (pss_cons (ps_set (i := 4) scSteps.nd rfl (Or.inl rfl) (pe_lst pa_nil))
      (pss_cons (ps_set (i := 5) scSteps.nd rfl (Or.inl rfl) pe_int)
      (pss_cons (ps_for PassesOwn.never rfl (pi_list (pv 1)) (pg_name (i := 6) scSteps.nd rfl (Or.inl rfl))
        (pss_cons (ps_set (i := 7) scSteps.nd rfl (Or.inl rfl) (pe_call GS hr (by rfl) DS.at_ DS.fn.kp DS.bn .nil pass0 (pa_cons (pv 0) (pa_cons (pv 5) (pa_cons (pv 6) pa_nil)))))
        (pss_cons (ps_set (i := 8) scSteps.nd rfl (Or.inl rfl) pe_non)
        (pss_cons (ps_mid (ps_if (pt_cmpR op_gt (pe_callB call_len_seq (by rfl) mlen PySem.boot_len (pa_cons (pv 4) pa_nil)) pe_int (nomark _)) (pss_one (ps_set (i := 8) scSteps.nd rfl (Or.inl rfl) (pe_ix ix_list (pv 4) (pe_un un_neg pe_int) (fun _ _ => rfl)))) pss_nil))
        (pss_cons (ps_set (i := 9) scSteps.nd rfl (Or.inl rfl) (pe_call GL hr (by rfl) DL.at_ DL.fn.kp DL.bn .nil pass0 (pa_cons (pv 0) (pa_cons (pv 5) (pa_cons (pv 8) (pa_cons (pv 7) pa_nil))))))
        (pss_one (ps_if (pw_and (pt_cmpR op_notN (pv 9) pe_non (nomark _)) (pw_and1 (pt_cmpR op_le (pe_op op_add (pe_callB call_len_seq (by rfl) mlen PySem.boot_len (pa_cons (pv 4) pa_nil)) (pe_callB call_len_seq (by rfl) mlen PySem.boot_len (pa_cons (pe_ix ix_tup (pv 9) pe_int (fun _ _ => rfl)) pa_nil))) pe_int (nomark _)))).pt
          (pss_cons (ps_expr (pe_bm PySem.F.plainAttrs_list PySem.F.slot_list_append PySem.F.type_list_append mt_append (pv 3) (pa_cons (pv 7) pa_nil)))
          (pss_cons (ps_set (i := 5) scSteps.nd rfl (Or.inl rfl) (pe_ix ix_tup (pv 9) pe_int (fun _ _ => rfl)))
          (pss_one (ps_expr (pe_bm PySem.F.plainAttrs_list PySem.F.slot_list_extend PySem.F.type_list_extend mt_extendT (pv 4) (pa_cons (pe_ix ix_tup (pv 9) pe_int (fun _ _ => rfl)) pa_nil))))))
          (pss_one (ps_if (pt_not (pt_val (pv 2))) (pss_one (ps_expr (pe_bm PySem.F.plainAttrs_list PySem.F.slot_list_append PySem.F.type_list_append mt_append (pv 3) (pa_cons (pv 7) pa_nil)))) pss_nil)))))))))
      (pss_one (ps_ret (pe_lst (pa_cons (pv 3) (pa_cons (pv 5) (pa_cons (pv 4) pa_nil))))))))), ?_⟩
    refine ⟨Nat.zero_le _, fun l1 hl1 => ?_⟩
    refine ⟨Nat.zero_le _, fun l2 hl2 => ?_⟩
    obtain ⟨n21, hl2H⟩ := free_ne hl2
    have S0 : Same H (upd (upd H l1 (.lst [])) l2 (.lst [])) := (same_upd hl1).trans (same_upd hl2)
    refine ⟨_, rfl, c, rfl, ⟨_, S0.seq hc⟩, for_list (K := K) (a := c) (xs := ns.map V.int) (fun i σ H2 => ∃ (ts : List Addr) (sts : List Sk) (d : Nat) (cp : List Str) (v6 v7 v8 v9 : Option V), σ = [some (.ref p), some (.ref c), some (.bl g), some (.ref l1), some (.ref l2), some (.int (d : Nat)), v6, v7, v8, v9] ∧
      H2 l1 = some (.lst (ts.map V.ref)) ∧ H2 l2 = some (.lst (cp.map V.str)) ∧ Same H H2 ∧ StepsAt K H2 ts sts ∧ d ≤ es.length ∧ sts.length ≤ i ∧ cp.length ≤ 40 ∧ (g = true → ∃ pl, walk es sts (0, [], []) = some (d, cp, pl)))
      ⟨[], [], 0, [], none, none, none, none, rfl, by rw [upd_ne (Ne.symm n21)]; exact upd_same, upd_same, S0, StepsAt.nil, Nat.zero_le _, Nat.le_refl _, Nat.zero_le _, fun _ => ⟨[], rfl⟩⟩ (fun i σ H2 _ ⟨_, _, _, _, _, _, _, _, _, _, _, S, _⟩ => S.seq hc) ?_ ?_⟩
    · rintro i y σ H2 hi ⟨ts, sts, d, cp, v6, v7, v8, v9, rfl, h1, h2, S, hA, hd, hsl, hcl, hgw⟩
      obtain ⟨n, _, rfl, hil⟩ := int_at hi
      refine ⟨_, rfl, _, rfl, _, rfl, p, es, d, n, rfl, sameT S hp, hg, hd, hel, fun st hO t ht => ?_⟩
      have St := same_upd (o := .tup (stepV st)) ht
      have k1 := St _ _ h1
      have k2 := St _ _ h2
      have S1 := S.trans St
      generalize hH3 : upd H2 t (.tup (stepV st)) = H3 at St k1 k2 S1
      have hT : H3 t = some (.tup (stepV st)) := by rw [← hH3]; exact upd_same
      have hA3 := hA.mono St
      refine ⟨fun σ' H' => σ' = [some (.ref p), some (.ref c), some (.bl g), some (.ref l1), some (.ref l2), some (.int (d : Nat)), some (.int n), some (.ref t), some (optS cp.getLast?), v9] ∧ H' = H3, ?_, ?_⟩
      · refine ⟨_, rfl, l2, _, rfl, .inl (SqL.of k2), _, _, rfl, rfl, _, rfl, ?_⟩
        refine ite2 (fun h => ?_) (fun h => ?_)
        · have h0 := of_decide_eq_true h
          rw [List.length_map] at h0
          obtain ⟨l, el, al⟩ := last_at (cp := cp) (by omega)
          refine ⟨_, rfl, _, rfl, l2, _, _, _, rfl, rfl, SqL.of k2, al, ?_, rfl⟩
          rw [el]; rfl
        · have h0 : ¬ ((0 : Int) < ((cp.map V.str).length : Int)) := fun c => h (decide_eq_true c)
          rw [List.length_map] at h0
          have e0 : cp = [] := List.eq_nil_of_length_eq_zero (by omega)
          subst e0
          exact ⟨rfl, rfl⟩
      · rintro σ' H' ⟨rfl, rfl⟩
        have n12 : l1 ≠ l2 := Ne.symm n21
        refine ⟨_, rfl, _, rfl, _, rfl, _, rfl, p, t, es, d, cp.getLast?, st, rfl, sameT S1 hp, SqT.of hT, hO, hd, ?_⟩
        cases ha : after es d cp.getLast? st with
        | none =>
          refine ⟨_, rfl, rfl, _, rfl, iteF ?_⟩
          refine ⟨_, rfl, g, rfl, ?_⟩
          cases g with
          | true => exact iteF ⟨ts, sts, d, cp, _, _, _, _, rfl, k1, k2, S1, hA3, hd, by omega, hcl, hgw⟩
          | false =>
            refine iteT ⟨_, rfl, .inl ⟨rfl, _, SqL.of k1⟩, _, rfl, l1, _, _, rfl, rfl, k1, (by rw [List.length_map, hA3.len]; exact fewer (by omega)), ?_⟩
            refine ⟨ts ++ [t], sts ++ [st], d, cp, _, _, _, _, rfl, by rw [upd_same, List.map_append]; rfl, by rw [upd_ne n21]; exact k2, same_to S1 hl1, ?_, hd, by rw [List.length_append]; show _ + 1 ≤ _; omega, hcl, fun e => absurd e Bool.false_ne_true⟩
            exact (stepsAt_upd hA3 k1).snoc (sqT_upd (SqT.of hT) k1) hO
        | some y =>
          obtain ⟨d', ws⟩ := y
          have hwl : ws.length ≤ 2 := after_len ha
          have hd' : d' ≤ es.length := after_le ha hd
          intro t1 r1 ht1 hr1 hne
          have f1 : upd H' t1 (.tup (ws.map V.str)) r1 = none := by rw [upd_ne hne]; exact hr1
          have S2 := (same_upd (o := .tup (ws.map V.str)) ht1).trans (same_upd (o := .tup [.int (d' : Nat), .ref t1]) f1)
          generalize hH4 : upd (upd H' t1 (.tup (ws.map V.str))) r1 (.tup [.int (d' : Nat), .ref t1]) = H4 at S2
          have g1 : H4 r1 = some (.tup [.int (d' : Nat), .ref t1]) := by rw [← hH4]; exact upd_same
          have g2 : H4 t1 = some (.tup (ws.map V.str)) := by rw [← hH4, upd_ne (Ne.symm hne)]; exact upd_same
          have m1 := S2 _ _ k1
          have m2 := S2 _ _ k2
          have hT4 := S2 _ _ hT
          have hA4 := hA3.mono S2
          have S4 := S1.trans S2
          refine ⟨_, rfl, rfl, _, rfl, ?_⟩
          refine ite2 (fun _ => ?_) (fun c => absurd (by rw [decide_eq_false (fun z => nomatch z), Bool.not_false]) c)
          refine ⟨_, rfl, l2, _, rfl, .inl (SqL.of m2), _, rfl, r1, _, _, _, rfl, rfl, SqT.of g1, rfl, t1, _, rfl, .inr (SqT.of g2), _, _, rfl, rfl, _, _, rfl, rfl, _, rfl, ?_⟩
          have mono1 : StepsAt K (upd H4 l1 (.lst (ts.map V.ref ++ [.ref t]))) (ts ++ [t]) (sts ++ [st]) := (stepsAt_upd hA4 m1).snoc (sqT_upd (SqT.of hT4) m1) hO
          refine ite2 (fun h => ?_) (fun h => ?_)
          · have h0 := of_decide_eq_true h
            rw [List.length_map, List.length_map] at h0
            have nr1 : r1 ≠ l1 := Ne.symm (ne_of_none k1 hr1)
            have nt1 : t1 ≠ l1 := Ne.symm (ne_of_none k1 ht1)
            refine ⟨_, rfl, .inl ⟨rfl, _, SqL.of m1⟩, _, rfl, l1, _, _, rfl, rfl, m1, (by rw [List.length_map, hA4.len]; exact fewer (by omega)), ?_⟩
            refine ⟨_, rfl, r1, _, _, _, rfl, rfl, SqT.of (by rw [upd_ne nr1]; exact g1), rfl, ?_⟩
            have m2' : upd H4 l1 (.lst (ts.map V.ref ++ [.ref t])) l2 = some (.lst (cp.map V.str)) := by rw [upd_ne n21]; exact m2
            refine ⟨_, rfl, .inl ⟨rfl, _, SqL.of m2'⟩, _, rfl, r1, _, _, _, rfl, rfl, SqT.of (by rw [upd_ne nr1]; exact g1), rfl, l2, t1, _, _, rfl, rfl, m2', SqT.of (by rw [upd_ne nt1]; exact g2), (by rw [List.length_map, List.length_map]; exact few (by omega)), ?_⟩
            refine ⟨ts ++ [t], sts ++ [st], d', cp ++ ws, _, _, _, _, rfl, ?_, ?_, same_to (same_to S4 hl1) hl2H, stepsAt_upd mono1 m2', hd', by rw [List.length_append]; show _ + 1 ≤ _; omega, by rw [List.length_append]; omega, fun e => ?_⟩
            · rw [upd_ne n12, upd_same, List.map_append]; rfl
            · rw [upd_same, List.map_append]
            · obtain ⟨pl, hw⟩ := hgw e
              refine ⟨pl ++ [d], ?_⟩
              rw [walk_append, hw]
              show walk es [st] (d, cp, pl) = _
              rw [walk_one]
              show (after es d cp.getLast? st).map _ = _
              rw [ha]; rfl
          · refine ⟨_, rfl, g, rfl, ?_⟩
            cases g with
            | true => exact iteF ⟨ts, sts, d, cp, _, _, _, _, rfl, m1, m2, S4, hA4, hd, by omega, hcl, hgw⟩
            | false =>
              refine iteT ⟨_, rfl, .inl ⟨rfl, _, SqL.of m1⟩, _, rfl, l1, _, _, rfl, rfl, m1, (by rw [List.length_map, hA4.len]; exact fewer (by omega)), ?_⟩
              exact ⟨ts ++ [t], sts ++ [st], d, cp, _, _, _, _, rfl, by rw [upd_same, List.map_append]; rfl, by rw [upd_ne n21]; exact m2, same_to S4 hl1, mono1, hd, by rw [List.length_append]; show _ + 1 ≤ _; omega, hcl, fun e => absurd e Bool.false_ne_true⟩
    · rintro σ H2 ⟨ts, sts, d, cp, v6, v7, v8, v9, rfl, h1, h2, S, hA, hd, hsl, hcl, hgw⟩
      rw [List.length_map] at hsl
      refine ⟨_, rfl, _, rfl, _, rfl, few (by show 3 ≤ _; omega), fun r hr' => ?_⟩
      have Sr := same_upd (o := .lst [.ref l1, .int (d : Nat), .ref l2]) hr'
      exact q _ r l1 l2 ts sts d cp (S.trans Sr) upd_same (Sr _ _ h1) (hA.mono Sr) hd hsl hcl hgw
/-! ### a whole number -/
def spWhole : Sp := fun vs H Q _ => ∃ i : Int, vs = [.int i] ∧ Q (.bl true) H
theorem scWhole : FnScope ["found"] ["found"] (defScope sWhole) := ⟨rfl, rfl, rfl, by decide +kernel, rfl, by decide +kernel, by decide +kernel⟩
theorem ok_whole {f : Addr} {fd : FuncData} (F : Fun K "_law_whole" "_law_whole" sWhole f fd) (misi : mg "isinstance" = none) (mint : mg "int" = none) (mbool : mg "bool" = none) (i6 : PySem.W.kitOne K (.type "int") (.type "bool") = some false) : FnOk P w K mg base CX0 1 f fd ["found"] spWhole := by
  refine Fun.okR F scWhole (fun vs H Q E h => ?_) (fun cdv A outer s H vs Q Q2 E hr h hq => ?_)
  · obtain ⟨i, rfl, _⟩ := h
    rfl
  · obtain ⟨i, rfl, q⟩ := h
    refine ⟨_, pss_one (ps_ret (pe_and (pe_callB call_isi (by rfl) misi boot_isinstance (pa_cons (pv 0) (pa_cons (pe_bltn (v := .ty "int") (by rfl) mint boot_int rfl) pa_nil))) (pe_one (pe_not (pe_callB call_isi (by rfl) misi boot_isinstance (pa_cons (pv 0) (pa_cons (pe_bltn (v := .ty "bool") (by rfl) mbool boot_bool rfl) pa_nil))))))), ?_⟩
    exact ⟨_, rfl, _, _, _, _, rfl, .int _, kit_same _, true, rfl, iteT ⟨_, rfl, _, _, _, _, rfl, .int _, i6, false, rfl, hq _ _ (Rst.same (Same.refl H) q)⟩⟩
/-! ### what a step costs -/
structure Places (w : World) (K : PySem.W.Frag) (a : Addr) (es : Array DictEntry) (n : Nat) : Prop where
  at_ : K.lookup a = some ⟨.type "dict", none, .dict es n, #[]⟩
  keys : PySem.W.KeysLit w.params es.toList
  p1 : ∃ t, PySem.W.nsIn K a "turn" = some (some (.int 1 t))
  p2 : ∃ t, PySem.W.nsIn K a "lose" = some (some (.int 2 t))
  p3 : ∃ t, PySem.W.nsIn K a "add" = some (some (.int 3 t))
  p4 : ∃ t, PySem.W.nsIn K a "twice" = some (some (.int 4 t))
  p5 : ∃ t, PySem.W.nsIn K a "swap" = some (some (.int 5 t))
  p6 : ∃ t, PySem.W.nsIn K a "skip" = some (some (.int 6 t))
def gI (pr : List Int) (i : Nat) : Int := (pr[i]?).getD 0
theorem at_p {pr : List Int} {i : Nat} (h : i < pr.length) : atI (pr.map V.int) (i : Int) = some (.int (gI pr i)) := atI_nat (by rw [List.getElem?_map, List.getElem?_eq_getElem h]; unfold gI; rw [List.getElem?_eq_getElem h]; rfl)
def price (es : List Str) (d : Nat) (pr : List Int) : Sk → Int
  | .keep => 0
  | .turn z => if alikeB (gt es d).cps.toList z.cps.toList = true then gI pr 0 else gI pr 1
  | .lose => gI pr 2
  | .add _ => gI pr 3
  | .twice => gI pr 4
  | .swap => gI pr 5
  | .skip _ => gI pr 6
def turnOk (es : List Str) (d : Nat) : Sk → Prop
  | .turn _ => d < es.length
  | _ => True
def spPrice (K : PySem.W.Frag) : Sp := fun vs H Q _ => ∃ (p t q : Addr) (es : List Str) (d : Nat) (st : Sk) (pr : List Int), vs = [.ref p, .int (d : Nat), .ref t, .ref q] ∧ SqT K H p (es.map V.str) ∧ (∀ z ∈ es, Good z) ∧ SqT K H t (stepV st) ∧ okS st ∧ turnOk es d st ∧ SqT K H q (pr.map V.int) ∧ pr.length = 7 ∧ Q (.int (price es d pr st)) H
theorem scPrice : FnScope ["elder", "done", "step", "prices", "kind"] ["elder", "done", "step", "prices"] (defScope sPrice) := ⟨rfl, rfl, rfl, by decide +kernel, rfl, by decide +kernel, by decide +kernel⟩
theorem ok_price {f gL aD : Addr} {fd dL : FuncData} {esD : Array DictEntry} {nD : Nat} (F : Fun K "step_price" "step_price" sPrice f fd) (DL : Dfn K mg "looks_alike" sLooks gL dL ["one", "two"]) (GL : FnOk P w K mg base CX0 1 gL dL ["one", "two"] spAlike)
    {tl : Tok} (mL : mg "LIKE" = some (.int 0 tl)) (mP : mg "PRICE_PLACES" = some (.ref aD)) (PL : Places w K aD esD nD) : FnOk P w K mg base CX0 2 f fd ["elder", "done", "step", "prices"] (spPrice K) := by
  refine Fun.okR F scPrice (fun vs H Q E h => ?_) (fun cdv A outer s H vs Q Q2 E hr h hq => ?_)
  · obtain ⟨p, t, q, es, d, st, pr, rfl, _⟩ := h
    rfl
  · obtain ⟨p, t, r, es, d, st, pr, rfl, hp, hg, ht, hok, hto, hpr, hl7, q⟩ := h
    refine ⟨_, pss_cons (ps_set (i := 4) scPrice.nd rfl (Or.inl rfl) (pe_ix ix_tup (pv 2) pe_int (fun _ _ => rfl)))
      (pss_cons (ps_if (pt_cmpR op_eq (pv 4) pe_str (nomark _)) (pss_one (ps_ret pe_int)) pss_nil)
      (pss_cons (ps_if (pw_and (pt_cmpR op_eq (pv 4) pe_str (nomark _)) (pw_and1 (pt_val (pe_call GL hr (by rfl) DL.at_ DL.fn.kp DL.bn .nil pass0 (pa_cons (pe_ix ix_tup (pv 0) (pv 1) (fun _ _ => rfl)) (pa_cons (pe_ix ix_tup (pv 2) pe_int (fun _ _ => rfl)) pa_nil)))))).pt
        (pss_one (ps_ret (pe_ix ix_tup (pv 3) (pe_glob (v := .int 0) (by rfl) mL ⟨_, rfl⟩) (fun _ _ => rfl)))) pss_nil)
      (pss_one (ps_ret (pe_ix ix_tup (pv 3) (pe_ix (ix_dictM rfl PL.at_ PL.keys) (pe_glob (v := .ref aD) (by rfl) mP rfl) (pv 4) (fun _ _ => rfl)) (fun _ _ => rfl)))))), ?_⟩
    have go : ∀ i, price es d pr st = i → Q2 (.int i) H := fun i e => hq _ _ (Rst.same (Same.refl H) (by rw [← e]; exact q))
    obtain ⟨t1, P1⟩ := PL.p1
    obtain ⟨t2, P2⟩ := PL.p2
    obtain ⟨t3, P3⟩ := PL.p3
    obtain ⟨t4, P4⟩ := PL.p4
    obtain ⟨t5, P5⟩ := PL.p5
    obtain ⟨t6, P6⟩ := PL.p6
    cases st with
    | keep => exact ⟨_, rfl, t, _, _, _, rfl, rfl, ht, rfl, _, rfl, rfl, _, rfl, iteY rfl (go _ rfl)⟩
    | turn z =>
      have hd : d < es.length := hto
      refine ⟨_, rfl, t, _, _, _, rfl, rfl, ht, rfl, ?_⟩
      refine ⟨_, rfl, rfl, _, rfl, iteK (by decide +kernel) ?_⟩
      refine ⟨_, rfl, rfl, _, rfl, iteY rfl ?_⟩
      refine ⟨_, rfl, _, rfl, p, _, _, _, rfl, rfl, hp, at_w hd, _, rfl, t, _, _, _, rfl, rfl, ht, rfl, _, _, rfl, (hg _ (gt_mem hd)).small, Good.small hok, _, rfl, ?_⟩
      cases hb : alikeB (gt es d).cps.toList z.cps.toList with
      | true => exact iteT ⟨_, rfl, r, _, _, _, rfl, rfl, hpr, at_p (i := 0) (by omega), go _ (by show (if alikeB (gt es d).cps.toList z.cps.toList = true then _ else _) = _; rw [hb]; rfl)⟩
      | false => exact iteF ⟨_, rfl, _, rfl, _, .int 1, _, rfl, rfl, P1, ⟨_, rfl⟩, r, _, _, _, rfl, rfl, hpr, at_p (i := 1) (by omega), go _ (by show (if alikeB (gt es d).cps.toList z.cps.toList = true then _ else _) = _; rw [hb]; rfl)⟩
    | lose =>
      refine ⟨_, rfl, t, _, _, _, rfl, rfl, ht, rfl, _, rfl, rfl, _, rfl, iteK (by decide +kernel) ⟨_, rfl, rfl, _, rfl, iteK (by decide +kernel) (iteF ?_)⟩⟩
      exact ⟨_, rfl, _, rfl, _, .int 2, _, rfl, rfl, P2, ⟨_, rfl⟩, r, _, _, _, rfl, rfl, hpr, at_p (i := 2) (by omega), go _ rfl⟩
    | add z =>
      refine ⟨_, rfl, t, _, _, _, rfl, rfl, ht, rfl, _, rfl, rfl, _, rfl, iteK (by decide +kernel) ⟨_, rfl, rfl, _, rfl, iteK (by decide +kernel) (iteF ?_)⟩⟩
      exact ⟨_, rfl, _, rfl, _, .int 3, _, rfl, rfl, P3, ⟨_, rfl⟩, r, _, _, _, rfl, rfl, hpr, at_p (i := 3) (by omega), go _ rfl⟩
    | twice =>
      refine ⟨_, rfl, t, _, _, _, rfl, rfl, ht, rfl, _, rfl, rfl, _, rfl, iteK (by decide +kernel) ⟨_, rfl, rfl, _, rfl, iteK (by decide +kernel) (iteF ?_)⟩⟩
      exact ⟨_, rfl, _, rfl, _, .int 4, _, rfl, rfl, P4, ⟨_, rfl⟩, r, _, _, _, rfl, rfl, hpr, at_p (i := 4) (by omega), go _ rfl⟩
    | swap =>
      refine ⟨_, rfl, t, _, _, _, rfl, rfl, ht, rfl, _, rfl, rfl, _, rfl, iteK (by decide +kernel) ⟨_, rfl, rfl, _, rfl, iteK (by decide +kernel) (iteF ?_)⟩⟩
      exact ⟨_, rfl, _, rfl, _, .int 5, _, rfl, rfl, P5, ⟨_, rfl⟩, r, _, _, _, rfl, rfl, hpr, at_p (i := 5) (by omega), go _ rfl⟩
    | skip m =>
      refine ⟨_, rfl, t, _, _, _, rfl, rfl, ht, rfl, _, rfl, rfl, _, rfl, iteK (by decide +kernel) ⟨_, rfl, rfl, _, rfl, iteK (by decide +kernel) (iteF ?_)⟩⟩
      exact ⟨_, rfl, _, rfl, _, .int 6, _, rfl, rfl, P6, ⟨_, rfl⟩, r, _, _, _, rfl, rfl, hpr, at_p (i := 6) (by omega), go _ rfl⟩
/-! ### the law's own looking alike, and price -/
theorem sum_ind (f : Nat → Bool) : ∀ l : List Nat, (l.map fun i => if f i = true then (1 : Int) else 0).sum = ((l.filter f).length : Nat)
  | [] => rfl
  | x :: l => by
    rw [List.map_cons, List.sum_cons, sum_ind f l]
    cases h : f x with
    | true => rw [List.filter_cons_of_pos h, List.length_cons, if_pos rfl]; omega
    | false => rw [List.filter_cons_of_neg (by rw [h]; exact Bool.false_ne_true), if_neg Bool.false_ne_true]; omega
theorem scLAlk : FnScope ["one", "two"] ["one", "two"] (defScope sLAlk) := ⟨rfl, rfl, rfl, by decide +kernel, rfl, by decide +kernel, by decide +kernel⟩
theorem nd_LAlk : (["k", "one", "two"] : List Str).Nodup := by decide +kernel
theorem ok_lalk {f : Addr} {fd : FuncData} (F : Fun K "_law_alike" "_law_alike" sLAlk f fd) (mlen : mg "len" = none) (mrange : mg "range" = none) (mint : mg "int" = none) (msum : mg "sum" = none) : FnOk P w K mg base CX0 1 f fd ["one", "two"] spAlike := by
  refine Fun.okR F scLAlk (fun vs H Q E h => ?_) (fun cdv A outer s H vs Q Q2 E hr h hq => ?_)
  · obtain ⟨a, b, rfl, _⟩ := h
    rfl
  · obtain ⟨a, b, rfl, ha, hb, q⟩ := h
    refine ⟨_, pss_cons (ps_if (pt_cmpR op_ne (pe_callB call_len_str (by rfl) mlen PySem.boot_len (pa_cons (pv 0) pa_nil)) (pe_callB call_len_str (by rfl) mlen PySem.boot_len (pa_cons (pv 1) pa_nil)) (nomark _)) (pss_one (ps_ret pe_bl)) pss_nil)
      (pss_one (ps_ret (pe_cmpR op_eq (pe_callB (call_sum rfl) (by rfl) msum boot_sum (pa_cons (pe_comp (Nc := ["k", "one", "two"]) (mp := [none, some 0, some 1]) rfl (CompOk.of (by rfl)) (pi_range1 (by rfl) mrange (pa_cons (pe_callB call_len_str (by rfl) mlen PySem.boot_len (pa_cons (pv 0) pa_nil)) pa_nil))
        (fun cl C s H fp => ⟨pg_name (i := 0) nd_LAlk rfl (Or.inl rfl), pts_nil, pe_callTy call_int1 (by rfl) mint boot_int (pa_cons (pe_cmpR op_ne (pe_ix ix_str (pv 1) (pv 0) (fun _ _ => rfl)) (pe_ix ix_str (pv 2) (pv 0) (fun _ _ => rfl)) (nomark _)) pa_nil)⟩)) pa_nil)) pe_int (nomark _)))), ?_⟩
    refine ⟨_, rfl, a, rfl, ha, _, rfl, b, rfl, hb, rfl, _, rfl, ?_⟩
    by_cases hl : a.length = b.length
    · refine iteNS (by rw [hl]) ?_
      refine ⟨_, rfl, a, rfl, ha, (a.length : Int), rfl, (by omega), (by have := szl; omega), ?_⟩
      rw [Int.toNat_natCast]
      refine comp_map (as := List.range a.length) (v := fun i => .int (0 + (i : Nat))) (fun i => .int (if (!decide (a.cps.toList[i]? = b.cps.toList[i]?)) = true then 1 else 0)) (src_range 0 a.length H) (by rw [List.length_range]; exact ha) (fun i hi k hk => ?_) (fun D hD => ?_)
      · have hi' := List.mem_range.mp hi
        have ea : a.cps.toList[i]? = some a.cps.toList[i] := List.getElem?_eq_getElem (by rw [clen]; exact hi')
        have eb : b.cps.toList[i]? = some b.cps.toList[i] := List.getElem?_eq_getElem (by rw [clen, ← hl]; exact hi')
        have ei : (0 : Int) + ((i : Nat) : Int) = ((i : Nat) : Int) := by omega
        refine ⟨_, rfl, _, rfl, a, _, a.cps.toList[i], rfl, rfl, ha, (by rw [ei]; exact atI_nat ea), _, rfl, _, rfl, b, _, b.cps.toList[i], rfl, rfl, hb, (by rw [ei]; exact atI_nat eb), rfl, .inr ⟨_, rfl, ?_⟩⟩
        have e : (!decide (V.str ⟨#[a.cps.toList[i]]⟩ = V.str ⟨#[b.cps.toList[i]]⟩)) = (!decide (a.cps.toList[i]? = b.cps.toList[i]?)) := by
          rw [ea, eb]
          congr 1
          exact decide_eq_decide.mpr ⟨fun z => by injection z with z; injection z with z; simpa using z, fun z => by rw [Option.some.inj z]⟩
        rw [e]; exact hk
      · refine ⟨D, (List.range a.length).map fun i => (if (!decide (a.cps.toList[i]? = b.cps.toList[i]?)) = true then (1 : Int) else 0), rfl, SqL.of (by rw [upd_same, List.map_map]; rfl), rfl, hq _ _ (Rst.same (same_upd hD) ?_)⟩
        rw [sum_ind]
        have e : decide (V.int (((List.range a.length).filter fun i => !decide (a.cps.toList[i]? = b.cps.toList[i]?)).length : Nat) = V.int 1) = alikeB a.cps.toList b.cps.toList := by
          unfold alikeB placesB
          rw [if_pos (by rw [clen, clen]; exact hl), clen]
          exact decide_eq_decide.mpr ⟨fun z => by injection z with z; omega, fun z => by rw [z]; rfl⟩
        rw [e]; exact q
    · refine ite2 (fun _ => ?_) (fun h => ?_)
      · refine hq _ _ (Rst.same (Same.refl H) ?_)
        have e : alikeB a.cps.toList b.cps.toList = false := by
          unfold alikeB
          rw [if_neg (by rw [clen, clen]; exact hl)]
        rw [← e]; exact q
      · exfalso
        refine h ?_
        rw [decide_eq_false (fun z => hl (by injection z with z; omega))]; rfl
def kinds6 : List Str := [Str.ofString "keep", Str.ofString "lose", Str.ofString "add", Str.ofString "twice", Str.ofString "swap", Str.ofString "skip"]
theorem scLPrice : FnScope ["elder", "done", "step", "prices"] ["elder", "done", "step", "prices"] (defScope sLPrice) := ⟨rfl, rfl, rfl, by decide +kernel, rfl, by decide +kernel, by decide +kernel⟩
theorem ok_lprice {f gL : Addr} {fd dL : FuncData} (F : Fun K "_law_price" "_law_price" sLPrice f fd) (DL : Dfn K mg "_law_alike" sLAlk gL dL ["one", "two"]) (GL : FnOk P w K mg base CX0 1 gL dL ["one", "two"] spAlike) (mint : mg "int" = none) : FnOk P w K mg base CX0 2 f fd ["elder", "done", "step", "prices"] (spPrice K) := by
  refine Fun.okR F scLPrice (fun vs H Q E h => ?_) (fun cdv A outer s H vs Q Q2 E hr h hq => ?_)
  · obtain ⟨p, t, q, es, d, st, pr, rfl, _⟩ := h
    rfl
  · obtain ⟨p, t, r, es, d, st, pr, rfl, hp, hg, ht, hok, hto, hpr, hl7, q⟩ := h
    refine ⟨_, pss_cons (ps_if (pt_cmpR op_eq (pe_ix ix_tup (pv 2) pe_int (fun _ _ => rfl)) pe_str (nomark _))
        (pss_one (ps_ret (pe_ix ix_tup (pv 3) (pe_op op_sub pe_int (pe_callTy call_int1 (by rfl) mint boot_int (pa_cons (pe_call GL hr (by rfl) DL.at_ DL.fn.kp DL.bn .nil pass0 (pa_cons (pe_ix ix_tup (pv 0) (pv 1) (fun _ _ => rfl)) (pa_cons (pe_ix ix_tup (pv 2) pe_int (fun _ _ => rfl)) pa_nil))) pa_nil))) (fun _ _ => rfl)))) pss_nil)
      (pss_one (ps_ret (pe_ix ix_list (pe_lst (pa_cons pe_int (pa_cons (pe_ix ix_tup (pv 3) pe_int (fun _ _ => rfl)) (pa_cons (pe_ix ix_tup (pv 3) pe_int (fun _ _ => rfl)) (pa_cons (pe_ix ix_tup (pv 3) pe_int (fun _ _ => rfl)) (pa_cons (pe_ix ix_tup (pv 3) pe_int (fun _ _ => rfl)) (pa_cons (pe_ix ix_tup (pv 3) pe_int (fun _ _ => rfl)) pa_nil)))))))
        (pe_bm PySem.F.plainAttrs_list PySem.F.slot_list_index PySem.F.type_list_index mt_indexL (pe_lst (pa_cons pe_str (pa_cons pe_str (pa_cons pe_str (pa_cons pe_str (pa_cons pe_str (pa_cons pe_str pa_nil))))))) (pa_cons (pe_ix ix_tup (pv 2) pe_int (fun _ _ => rfl)) pa_nil)) (fun _ _ => rfl)))), ?_⟩
    have go : ∀ i H', Same H H' → price es d pr st = i → Q2 (.int i) H' := fun i H' S e => hq _ _ (Rst.same S (by rw [← e]; exact q))
    by_cases htn : ∃ z, st = .turn z
    · obtain ⟨z, rfl⟩ := htn
      have hd : d < es.length := hto
      refine ⟨_, rfl, t, _, _, _, rfl, rfl, ht, rfl, rfl, _, rfl, iteY rfl ?_⟩
      refine ⟨_, rfl, _, rfl, _, rfl, p, _, _, _, rfl, rfl, hp, at_w hd, _, rfl, t, _, _, _, rfl, rfl, ht, rfl, _, _, rfl, (hg _ (gt_mem hd)).small, Good.small hok, .inr ⟨_, rfl, _, _, rfl, rfl, ?_⟩⟩
      cases hb : alikeB (gt es d).cps.toList z.cps.toList with
      | true => exact ⟨r, _, _, _, rfl, rfl, hpr, at_p (i := 0) (by omega), go _ _ (Same.refl H) (by show (if alikeB (gt es d).cps.toList z.cps.toList = true then _ else _) = _; rw [hb]; rfl)⟩
      | false => exact ⟨r, _, _, _, rfl, rfl, hpr, at_p (i := 1) (by omega), go _ _ (Same.refl H) (by show (if alikeB (gt es d).cps.toList z.cps.toList = true then _ else _) = _; rw [hb]; rfl)⟩
    · obtain ⟨z, rest, j, e1, e2, e3, e4, e5⟩ : ∃ (z : Str) (rest : List V) (j : Nat), stepV st = V.str z :: rest ∧ V.str z ≠ V.str (Str.ofString "turn") ∧ kinds6[j]? = some z ∧ (∀ m, m < j → kinds6[m]? ≠ some z) ∧ ([.int 0, .int (gI pr 2), .int (gI pr 3), .int (gI pr 4), .int (gI pr 5), .int (gI pr 6)] : List V)[j]? = some (.int (price es d pr st)) := by
        cases st with
        | keep => exact ⟨_, _, 0, rfl, by decide +kernel, rfl, by decide +kernel, rfl⟩
        | lose => exact ⟨_, _, 1, rfl, by decide +kernel, rfl, by decide +kernel, rfl⟩
        | add z => exact ⟨_, _, 2, rfl, by decide +kernel, rfl, by decide +kernel, rfl⟩
        | twice => exact ⟨_, _, 3, rfl, by decide +kernel, rfl, by decide +kernel, rfl⟩
        | swap => exact ⟨_, _, 4, rfl, by decide +kernel, rfl, by decide +kernel, rfl⟩
        | skip m => exact ⟨_, _, 5, rfl, by decide +kernel, rfl, by decide +kernel, rfl⟩
        | turn z => exact absurd ⟨z, rfl⟩ htn
      have a0 : atI (stepV st) 0 = some (.str z) := atI_nat (j := 0) (by rw [e1]; rfl)
      refine ⟨_, rfl, t, _, _, _, rfl, rfl, ht, a0, rfl, _, rfl, iteK e2 ?_⟩
      refine ⟨_, rfl, r, _, _, _, rfl, rfl, hpr, at_p (i := 2) (by omega), _, rfl, r, _, _, _, rfl, rfl, hpr, at_p (i := 3) (by omega), _, rfl, r, _, _, _, rfl, rfl, hpr, at_p (i := 4) (by omega), _, rfl, r, _, _, _, rfl, rfl, hpr, at_p (i := 5) (by omega), _, rfl, r, _, _, _, rfl, rfl, hpr, at_p (i := 6) (by omega), few (by show 6 ≤ _; omega), fun l1 hl1 => ?_⟩
      refine ⟨few (by show 6 ≤ _; omega), fun l2 hl2 => ?_⟩
      have S1 := same_upd (o := .lst [.int 0, .int (gI pr 2), .int (gI pr 3), .int (gI pr 4), .int (gI pr 5), .int (gI pr 6)]) hl1
      have S2 := same_upd (o := .lst (kinds6.map V.str)) hl2
      have k1 := S2 _ _ (upd_same (H := H) (a := l1) (o := .lst [.int 0, .int (gI pr 2), .int (gI pr 3), .int (gI pr 4), .int (gI pr 5), .int (gI pr 6)]))
      refine ⟨.inl ⟨rfl, _, SqL.of upd_same⟩, _, rfl, t, _, _, _, rfl, rfl, seqT (S1.trans S2) ht, a0, l2, kinds6, z, j, rfl, rfl, upd_same, e3, e4, (by show 6 ≤ 1000; omega), ?_⟩
      exact ⟨l1, _, _, _, rfl, rfl, SqL.of k1, atI_nat e5, go _ _ (S1.trans S2) rfl⟩
/-! ### what all steps cost -/
def cost (es : List Str) (pr : List Int) (pl : List Nat) (sts : List Sk) : Int := ((pl.zip sts).map fun x => price es x.1 pr x.2).sum
theorem cost_snoc {es : List Str} {pr : List Int} {pl : List Nat} {sts : List Sk} {d : Nat} {st : Sk} (h : pl.length = sts.length) : cost es pr (pl ++ [d]) (sts ++ [st]) = cost es pr pl sts + price es d pr st := by
  unfold cost
  rw [List.zip_append h, List.map_append, List.sum_append]
  simp
theorem walk_pre {es : List Str} {sts : List Sk} {x y : WS} (k : Nat) (h : walk es sts x = some y) : ∃ y', walk es (sts.take k) x = some y' := by
  have e : sts = sts.take k ++ sts.drop k := (List.take_append_drop k sts).symm
  rw [e, walk_append] at h
  cases hw : walk es (sts.take k) x with
  | none => rw [hw] at h; cases h
  | some y' => exact ⟨y', rfl⟩
theorem after_turn {es : List Str} {d : Nat} {last : Option Str} {st : Sk} {y : Nat × List Str} (h : after es d last st = some y) : turnOk es d st := by
  unfold after at h
  split at h
  · rename_i hf
    cases st with
    | turn z => show d < es.length; exact of_decide_eq_true (Bool.and_eq_true_iff.mp hf).1
    | _ => trivial
  · cases h
theorem walk_at {es : List Str} {sts : List Sk} {i : Nat} {st : Sk} {d : Nat} {cp : List Str} {pl : List Nat} {y : WS} (hs : walk es sts (0, [], []) = some y) (hi : sts[i]? = some st) (hw : walk es (sts.take i) (0, [], []) = some (d, cp, pl)) :
    ∃ d' ws, after es d cp.getLast? st = some (d', ws) ∧ walk es (sts.take (i + 1)) (0, [], []) = some (d', cp ++ ws, pl ++ [d]) := by
  obtain ⟨y', hy⟩ := walk_pre (i + 1) hs
  have wt := walk_turn hi hw
  rw [hy] at wt
  cases ha : after es d cp.getLast? st with
  | none => rw [ha] at wt; cases wt
  | some z =>
    rw [ha] at wt
    exact ⟨z.1, z.2, rfl, by rw [hy]; exact wt⟩
theorem take_snoc {sts : List Sk} {i : Nat} {st : Sk} (hi : sts[i]? = some st) : sts.take (i + 1) = sts.take i ++ [st] := by
  have hl := (List.getElem?_eq_some_iff.mp hi).1
  rw [List.take_succ_eq_append_getElem hl, (List.getElem?_eq_some_iff.mp hi).2]
/-! ### slips_price -/
theorem pg_tupK {X : Cx} {es : List Expr} {k : Nat} {t : TGs} {n : Nat} {pos : Pos} (hK : X.K = K) (hc : X.calm = true) (h : PGs X es t)
    (hn : (assignEach es X.env).length = n := by rfl) (hst : (assignEach es X.env).findIdx? (·.1) = none := by rfl) : PG X (.Tuple es k pos) (gTup K n t) := by
  subst hK
  exact pg_tup hc h hn hst
theorem pi_zipK {X : Cx} {es : List Expr} {x1 : Nat} {tpos : Pos} {a b : Expr} {ta : TA} {p pos : Pos} (hK : X.K = K) (hg : Gl X "zip") (hm : X.mg "zip" = none) (ha : PA X [a, b] ta) (hs : starEach [a, b] X.env = [(false, eval a X.env), (false, eval b X.env)] := by rfl) (hs2 : starEach [b] X.env = [(false, eval b X.env)] := by rfl) :
    PI X (.Tuple es x1 tpos) (.Call (.Name "zip" p) [a, b] [] pos) (iZip K ta) := by
  subst hK
  exact pi_zip hg hm ha hs hs2
def spCost (K : PySem.W.Frag) (C : Addr) : Sp := fun vs H Q E => ∃ (p q r : Addr) (es : List Str) (ts : List Addr) (sts : List Sk) (pr : List Int), vs = [.ref p, .ref q, .ref r] ∧ SqT K H p (es.map V.str) ∧ (∀ z ∈ es, Good z) ∧ SqT K H q (ts.map V.ref) ∧ StepsAt K H ts sts ∧ sts.length ≤ 1000 ∧ SqT K H r (pr.map V.int) ∧ pr.length = 7 ∧
  match made es sts with
  | some (_, pl) => Q (.int (cost es pr pl sts)) H
  | none => E (.ref C) none H
theorem walk_made {es : List Str} {sts : List Sk} {cp : List Str} {pl : List Nat} (h : made es sts = some (cp, pl)) : ∃ d, walk es sts (0, [], []) = some (d, cp, pl) := by
  unfold made at h
  cases hw : walk es sts (0, [], []) with
  | none => rw [hw] at h; cases h
  | some x =>
    rw [hw, Option.bind_some] at h
    split at h
    · cases h
    · cases h
      exact ⟨x.1, rfl⟩
/-- the places: one for each step, and the step can be made there -/
theorem walk_places {es : List Str} {sts : List Sk} {y : WS} (h : walk es sts (0, [], []) = some y) : ∀ i, i ≤ sts.length → ∃ d cp, walk es (sts.take i) (0, [], []) = some (d, cp, y.2.2.take i) ∧ (y.2.2.take i).length = i := by
  have main : ∀ i, i ≤ sts.length → ∃ d cp pl, walk es (sts.take i) (0, [], []) = some (d, cp, pl) ∧ pl.length = i := fun i => by
    induction i with
    | zero => exact fun _ => ⟨0, [], [], rfl, rfl⟩
    | succ i ih =>
      intro hi
      obtain ⟨d, cp, pl, hw, hl⟩ := ih (by omega)
      obtain ⟨d', ws, _, hw'⟩ := walk_at h (List.getElem?_eq_getElem (show i < sts.length by omega)) hw
      exact ⟨d', _, _, hw', by rw [List.length_append, hl]; rfl⟩
  have grow : ∀ (r : List Sk) (x z : WS), walk es r x = some z → ∃ m, z.2.2 = x.2.2 ++ m := fun r => by
    induction r with
    | nil => intro x z e; cases e; exact ⟨[], by simp⟩
    | cons st r ih =>
      intro x z e
      have e' : (walk1 es x st).bind (walk es r) = some z := e
      cases hw : walk1 es x st with
      | none => rw [hw] at e'; cases e'
      | some x' =>
        rw [hw, Option.bind_some] at e'
        obtain ⟨m, em⟩ := ih x' z e'
        unfold walk1 at hw
        cases ha : after es x.1 x.2.1.getLast? st with
        | none => rw [ha] at hw; cases hw
        | some u =>
          rw [ha] at hw
          cases hw
          exact ⟨[x.1] ++ m, by rw [em]; simp⟩
  intro i hi
  obtain ⟨d, cp, pl, hw, hl⟩ := main i hi
  have e : sts = sts.take i ++ sts.drop i := (List.take_append_drop i sts).symm
  rw [e, walk_append, hw, Option.bind_some] at h
  obtain ⟨m, em⟩ := grow _ _ _ h
  have e2 : y.2.2.take i = pl := by rw [em]; show (pl ++ m).take i = pl; rw [← hl]; simp
  exact ⟨d, cp, by rw [e2]; exact hw, by rw [e2]; exact hl⟩
theorem yes_ (σ : L2.St) (H : Hp) (k : Bool → Hp → Prop) (h : k true H) : tYes σ H k := h
theorem scCost : FnScope ["elder", "steps", "prices", "places"] ["elder", "steps", "prices"] (defScope sCost) := ⟨rfl, rfl, rfl, by decide +kernel, rfl, by decide +kernel, by decide +kernel⟩
theorem nd_dsep : (["done", "step", "elder", "prices"] : List Str).Nodup := by decide +kernel
theorem ok_cost {f gW gP C : Addr} {fd dW dP : FuncData} (F : Fun K "slips_price" "slips_price" sCost f fd) (DW : Dfn K mg "steps_walked" sWalk gW dW ["elder", "steps"]) (GW : FnOk P w K mg base (CXv P w) 4 gW dW ["elder", "steps"] (spWalk K C)) (DP : Dfn K mg "step_price" sPrice gP dP ["elder", "done", "step", "prices"]) (GP : FnOk P w K mg base CX0 4 gP dP ["elder", "done", "step", "prices"] (spPrice K))
    (msum : mg "sum" = none) (mzip : mg "zip" = none) : FnOk P w K mg base (CXv P w) 5 f fd ["elder", "steps", "prices"] (spCost K C) := by
  refine Fun.okXR F scCost (fun vs H Q E h => ?_) (fun cdv A outer s H vs Q Q2 E E2 hr h hq hE => ?_)
  · obtain ⟨p, q, r, es, ts, sts, pr, rfl, _⟩ := h
    rfl
  · obtain ⟨p, q0, r, es, ts, sts, pr, rfl, hp, hg, hts, hst, hsl, hpr, hl7, q⟩ := h
    refine ⟨_, pss_cons (ps_set (i := 3) scCost.nd rfl (Or.inl rfl) (pe_ix ix_tup (pe_call GW hr (by rfl) DW.at_ DW.fn.kp DW.bn .nil passes_def (pa_cons (pv 0) (pa_cons (pv 1) pa_nil))) pe_int (fun _ _ => rfl)))
      (pss_one (ps_ret (pe_callB (call_sum rfl) (by rfl) msum boot_sum (pa_cons (pe_comp (Nc := ["done", "step", "elder", "prices"]) (mp := [none, none, some 0, some 2]) rfl (CompOk.of (by rfl)) (pi_zipK (K := K) rfl (by rfl) mzip (pa_cons (pv 3) (pa_cons (pv 1) pa_nil)))
        (fun cl C s H fp => ⟨pg_tupK (K := K) (n := 2) rfl rfl (pgs_cons (pg_name (i := 0) nd_dsep rfl (Or.inl rfl)) (pgs_cons (pg_name (i := 1) nd_dsep rfl (Or.inl rfl)) pgs_nil)), pts_nil, pe_call GP hr (by rfl) DP.at_ DP.fn.kp DP.bn .nil pass0 (pa_cons (pv 2) (pa_cons (pv 0) (pa_cons (pv 1) (pa_cons (pv 3) pa_nil))))⟩)) pa_nil)))), ?_⟩
    refine ⟨_, rfl, _, rfl, p, q0, es, ts, sts, rfl, hp, hts, hst, hsl, ?_⟩
    cases hm : made es sts with
    | none =>
      rw [hm] at q
      exact hE _ _ _ (Rst.same (Same.refl H) q)
    | some y =>
      obtain ⟨cp, pl⟩ := y
      rw [hm] at q
      obtain ⟨dE, hwk⟩ := walk_made hm
      intro a b r1 ha hb hr' n1 n2 n3
      have s1 := same_upd (o := .tup (cp.map V.str)) ha
      have s2 := same_upd (o := .tup (pl.map nV)) (show upd H a (.tup (cp.map V.str)) b = none by rw [upd_ne n1]; exact hb)
      have s3 := same_upd (o := .tup [.ref a, .ref b]) (show upd (upd H a (.tup (cp.map V.str))) b (.tup (pl.map nV)) r1 = none by rw [upd_ne n3, upd_ne n2]; exact hr')
      refine ⟨r1, _, _, _, rfl, rfl, SqT.of upd_same, rfl, ?_⟩
      have hb' := s3 _ _ (upd_same (H := upd H a (.tup (cp.map V.str))) (a := b) (o := .tup (pl.map nV)))
      have S0 := (s1.trans s2).trans s3
      generalize hH1 : upd (upd (upd H a (.tup (cp.map V.str))) b (.tup (pl.map nV))) r1 (.tup [.ref a, .ref b]) = H1 at S0 hb'
      have hpll : pl.length = sts.length := by
        obtain ⟨_, _, _, hl⟩ := walk_places hwk sts.length (Nat.le_refl _)
        have hw0 := hwk
        obtain ⟨d', cp', hw', hl'⟩ := walk_places hwk sts.length (Nat.le_refl _)
        rw [List.take_length, hwk] at hw'
        have e : pl = pl.take sts.length := by
          have := (Prod.mk.inj (Prod.mk.inj (Option.some.inj hw')).2).2
          exact this
        rw [e]; exact hl'
      refine ⟨_, rfl, _, rfl, b, q0, rfl, ⟨_, SqT.of hb'⟩, ⟨_, sameT S0 hts⟩, ?_⟩
      refine ⟨fun i m σ acc H2 => i ≤ sts.length ∧ m = sts.length - i ∧ acc = (((pl.zip sts).take i).map fun x => V.int (price es x.1 pr x.2)) ∧ Same H1 H2 ∧ ∃ o1 o2, σ = [o1, o2, some (.ref p), some (.ref r)], ⟨sts.length, Nat.zero_le _, rfl, rfl, Same.refl _, none, none, rfl⟩, ?_⟩
      rintro i m σ acc H2 ⟨hi, rfl, rfl, S, o1, o2, rfl⟩
      have hzl : (pl.zip sts).length = sts.length := by rw [List.length_zip, hpll]; omega
      have hacc : (((pl.zip sts).take i).map fun x => V.int (price es x.1 pr x.2)).length = i := by rw [List.length_map, List.length_take, hzl]; omega
      have hb2 := S _ _ hb'
      have hts2 := sameT (S0.trans S) hts
      by_cases hlt : i < sts.length
      · refine .inr ⟨⟨_, _, nV (pl[i]'(by omega)), .ref (ts[i]'(by rw [hst.len]; exact hlt)), SqT.of hb2, hts2, ?_, ?_⟩, ?_⟩
        · rw [List.getElem?_map, List.getElem?_eq_getElem (show i < pl.length by omega)]; rfl
        · rw [List.getElem?_map, List.getElem?_eq_getElem (show i < ts.length by rw [hst.len]; exact hlt)]; rfl
        · rintro x H3 ⟨T, u, v, rfl, hT, rfl, huv⟩
          obtain ⟨eu, ev⟩ := huv _ _ (SqT.of hb2) hts2
          obtain ⟨t, hti, rfl⟩ := ref_at ev
          have hsi : sts[i]? = some sts[i] := List.getElem?_eq_getElem hlt
          have hpi : pl[i]? = some (pl[i]'(by omega)) := List.getElem?_eq_getElem (by omega)
          rw [List.getElem?_map, hpi] at eu
          have eu' : nV (pl[i]'(by omega)) = u := Option.some.inj eu
          subst eu'
          obtain ⟨hT1, hO⟩ := hst.item i t _ hti hsi
          have S2 := same_upd (o := .tup [nV (pl[i]'(by omega)), .ref t]) hT
          have SS := (S0.trans S).trans S2
          have hto : turnOk es (pl[i]'(by omega)) sts[i] := by
            obtain ⟨d1, cp1, hw1, hl1⟩ := walk_places hwk i hi
            obtain ⟨d', ws, hA, hw'⟩ := walk_at hwk hsi hw1
            obtain ⟨d2, cp2, hw2, hl2⟩ := walk_places hwk (i + 1) hlt
            rw [hw'] at hw2
            have e := (Prod.mk.inj (Prod.mk.inj (Option.some.inj hw2)).2).2
            have e3 : (pl.take i ++ [d1])[i]? = (pl.take (i + 1))[i]? := by rw [show pl.take i ++ [d1] = pl.take (i + 1) from e]
            rw [List.getElem?_append_right (by rw [List.length_take]; omega), List.getElem?_take_of_lt (by omega), hpi] at e3
            have e4 : i - (pl.take i).length = 0 := by rw [List.length_take]; omega
            rw [e4] at e3
            have e5 : d1 = pl[i]'(by omega) := by simpa using e3
            rw [← e5]
            exact after_turn hA
          refine ⟨T, _, rfl, SqT.of upd_same, rfl, _, _, rfl, _, _, rfl, rfl, ?_⟩
          refine yes_ _ _ _ ?_
          rw [if_pos rfl]
          refine ⟨_, rfl, _, rfl, _, rfl, _, rfl, p, t, r, es, _, _, pr, rfl, sameT SS hp, hg, sameT SS hT1, hO, hto, sameT SS hpr, hl7, ?_⟩
          refine ⟨by rw [hacc]; exact fewer (by omega), sts.length - (i + 1), by omega, hlt, rfl, ?_, S.trans S2, _, _, rfl⟩
          rw [List.take_succ_eq_append_getElem (by rw [hzl]; exact hlt), List.map_append, List.getElem_zip]
          rfl
      · have ei : i = sts.length := by omega
        subst ei
        refine .inl ⟨⟨_, _, SqT.of hb2, hts2, .inl (by rw [List.length_map, hpll]; exact Nat.le_refl _)⟩, by rw [hacc]; exact few (by omega), fun D hD => ?_⟩
        have q' : Q (.int ((pl.zip sts).map fun x : Nat × Sk => price es x.1 pr x.2).sum) H := q
        refine ⟨D, (pl.zip sts).map fun x : Nat × Sk => price es x.1 pr x.2, rfl, SqL.of ?_, hq _ _ (Rst.same ((S0.trans S).trans (same_upd hD)) q')⟩
        rw [upd_same, ← hzl, List.take_length, List.map_map]
        rfl
/-! ### the beginning of a row of steps -/
theorem take_get {es : List Str} {d D : Nat} (h : d < D) : (es.take D)[d]? = es[d]? := by rw [List.getElem?_take, if_pos h]
theorem take_gt {es : List Str} {d D : Nat} (h : d < D) : gt (es.take D) d = gt es d := by unfold gt; rw [take_get h]
theorem take_len {es : List Str} {D : Nat} (h : D ≤ es.length) : (es.take D).length = D := by rw [List.length_take]; omega
theorem after_fst {es : List Str} {d : Nat} {last : Option Str} {st : Sk} {y : Nat × List Str} (h : after es d last st = some y) : fitsB es d last st = true ∧ y = (d + wd st, ww es d last st) := by
  unfold after at h
  split at h
  · rename_i hf
    cases h
    exact ⟨hf, rfl⟩
  · cases h
theorem after_take {es : List Str} {d D : Nat} {last : Option Str} {st : Sk} {y : Nat × List Str} (h : after es d last st = some y) (hy : y.1 ≤ D) (hD : D ≤ es.length) : after (es.take D) d last st = some y := by
  obtain ⟨hf, rfl⟩ := after_fst h
  have hy' : d + wd st ≤ D := hy
  have e : fitsB (es.take D) d last st = true ∧ ww (es.take D) d last st = ww es d last st := by
    cases st with
    | keep =>
      have h1 : d + 1 ≤ D := hy'
      refine ⟨decide_eq_true (by rw [take_len hD]; omega), ?_⟩
      show [gt (es.take D) d] = [gt es d]
      rw [take_gt (by omega)]
    | lose =>
      have h1 : d + 1 ≤ D := hy'
      exact ⟨decide_eq_true (by rw [take_len hD]; omega), rfl⟩
    | twice => exact ⟨hf, rfl⟩
    | add z => exact ⟨rfl, rfl⟩
    | swap =>
      have h1 : d + 2 ≤ D := hy'
      have hf' := Bool.and_eq_true_iff.mp (show (decide (d + 1 < es.length) && !decide (es[d]? = es[d + 1]?)) = true from hf)
      refine ⟨?_, ?_⟩
      · show (decide (d + 1 < (es.take D).length) && !decide ((es.take D)[d]? = (es.take D)[d + 1]?)) = true
        rw [take_get (show d < D by omega), take_get (show d + 1 < D by omega), hf'.2, decide_eq_true (by rw [take_len hD]; omega)]
        rfl
      · show [gt (es.take D) (d + 1), gt (es.take D) d] = [gt es (d + 1), gt es d]
        rw [take_gt (show d + 1 < D by omega), take_gt (show d < D by omega)]
    | turn z =>
      have h1 : d + 1 ≤ D := hy'
      have hf' := Bool.and_eq_true_iff.mp (show (decide (d < es.length) && !decide (es[d]? = some z)) = true from hf)
      refine ⟨?_, rfl⟩
      show (decide (d < (es.take D).length) && !decide ((es.take D)[d]? = some z)) = true
      rw [take_get (show d < D by omega), hf'.2, decide_eq_true (by rw [take_len hD]; omega)]
      rfl
    | skip m =>
      have h1 : d + m ≤ D := hy'
      have hf' := Bool.and_eq_true_iff.mp (show (decide (1 ≤ d ∧ d + m ≤ es.length) && decide (es[d + m - 1]? = es[d - 1]?)) = true from hf)
      have h2 := of_decide_eq_true hf'.1
      refine ⟨?_, rfl⟩
      show (decide (1 ≤ d ∧ d + m ≤ (es.take D).length) && decide ((es.take D)[d + m - 1]? = (es.take D)[d - 1]?)) = true
      rw [take_get (show d + m - 1 < D by omega), take_get (show d - 1 < D by omega), hf'.2, decide_eq_true (by rw [take_len hD]; omega)]
      rfl
  unfold after
  rw [if_pos e.1, e.2]
theorem price_take {es : List Str} {d D : Nat} {last : Option Str} {st : Sk} {y : Nat × List Str} {pr : List Int} (h : after es d last st = some y) (hy : y.1 ≤ D) : price (es.take D) d pr st = price es d pr st := by
  obtain ⟨_, rfl⟩ := after_fst h
  cases st with
  | turn z =>
    have h1 : d + 1 ≤ D := hy
    show (if alikeB (gt (es.take D) d).cps.toList z.cps.toList = true then gI pr 0 else gI pr 1) = _
    rw [take_gt (by omega)]
    rfl
  | _ => rfl
theorem walk_cons {es : List Str} {st : Sk} {r : List Sk} {x y : WS} (h : walk es (st :: r) x = some y) : ∃ a, after es x.1 x.2.1.getLast? st = some a ∧ walk es r (a.1, x.2.1 ++ a.2, x.2.2 ++ [x.1]) = some y := by
  have h' : (walk1 es x st).bind (walk es r) = some y := h
  unfold walk1 at h'
  cases ha : after es x.1 x.2.1.getLast? st with
  | none => rw [ha] at h'; cases h'
  | some a => rw [ha] at h'; exact ⟨a, rfl, h'⟩
theorem cons_walk {es : List Str} {st : Sk} {r : List Sk} {x : WS} {a : Nat × List Str} (h : after es x.1 x.2.1.getLast? st = some a) : walk es (st :: r) x = walk es r (a.1, x.2.1 ++ a.2, x.2.2 ++ [x.1]) := by
  show (walk1 es x st).bind (walk es r) = _
  unfold walk1
  rw [h]; rfl
theorem walk_mono {es : List Str} : ∀ {sts : List Sk} {x y : WS}, walk es sts x = some y → x.1 ≤ y.1
  | [], x, y, h => by cases h; exact Nat.le_refl _
  | st :: r, x, y, h => by
    obtain ⟨a, ha, hw⟩ := walk_cons h
    have h1 := walk_mono hw
    obtain ⟨_, rfl⟩ := after_fst ha
    have h2 : x.1 + wd st ≤ y.1 := h1
    omega
theorem walk_take {es : List Str} {D : Nat} (hD : D ≤ es.length) : ∀ {sts : List Sk} {x y : WS}, walk es sts x = some y → y.1 ≤ D → walk (es.take D) sts x = some y
  | [], x, y, h, _ => h
  | st :: r, x, y, h, hy => by
    obtain ⟨a, ha, hw⟩ := walk_cons h
    have h1 := walk_mono hw
    rw [cons_walk (after_take ha (Nat.le_trans h1 hy) hD)]
    exact walk_take hD hw hy
theorem cost_cons (es : List Str) (pr : List Int) (d : Nat) (m : List Nat) (st : Sk) (r : List Sk) : cost es pr (d :: m) (st :: r) = price es d pr st + cost es pr m r := by
  unfold cost
  rw [List.zip_cons_cons, List.map_cons, List.sum_cons]
theorem walk_grow {es : List Str} : ∀ {sts : List Sk} {x y : WS}, walk es sts x = some y → ∃ m, y.2.2 = x.2.2 ++ m ∧ m.length = sts.length ∧ (∃ c, y.2.1 = x.2.1 ++ c) ∧ ∀ D, y.1 ≤ D → ∀ pr, cost (es.take D) pr m sts = cost es pr m sts
  | [], x, y, h => by cases h; exact ⟨[], by simp, rfl, ⟨[], by simp⟩, fun _ _ _ => rfl⟩
  | st :: r, x, y, h => by
    obtain ⟨a, ha, hw⟩ := walk_cons h
    obtain ⟨m, e1, e2, ⟨c, e3⟩, e4⟩ := walk_grow hw
    refine ⟨x.1 :: m, by rw [e1]; simp, by rw [List.length_cons, e2, List.length_cons], ⟨a.2 ++ c, by rw [e3]; simp⟩, fun D hD pr => ?_⟩
    rw [cost_cons, cost_cons, e4 D hD pr, price_take ha (Nat.le_trans (walk_mono hw) hD)]
/-- the beginning makes the beginning, and costs as much -/
theorem part_made {es : List Str} {sts : List Sk} {d : Nat} {cp : List Str} {pl : List Nat} (h : walk es sts (0, [], []) = some (d, cp, pl)) (hd : d ≤ es.length) (hc : cp.length ≤ 40) (pr : List Int) : made (es.take d) sts = some (cp, pl) ∧ cost (es.take d) pr pl sts = cost es pr pl sts := by
  refine ⟨?_, ?_⟩
  · unfold made
    rw [walk_take hd h (Nat.le_refl _), Option.bind_some]
    show (if d < (es.take d).length ∨ 40 < cp.length then none else some (cp, pl)) = _
    rw [if_neg (by rw [take_len hd]; omega)]
  · obtain ⟨m, e1, _, _, e4⟩ := walk_grow h
    have e : pl = m := by rw [show pl = ([] : List Nat) ++ m from e1]; rfl
    rw [e]
    exact e4 d (Nat.le_refl _) pr
theorem walk_split {es : List Str} {sts : List Sk} {y : WS} (k : Nat) (h : walk es sts (0, [], []) = some y) : ∃ d cp pl, walk es (sts.take k) (0, [], []) = some (d, cp, pl) ∧ d ≤ y.1 ∧ ∃ c, y.2.1 = cp ++ c := by
  have e : sts = sts.take k ++ sts.drop k := (List.take_append_drop k sts).symm
  rw [e, walk_append] at h
  cases hw : walk es (sts.take k) (0, [], []) with
  | none => rw [hw] at h; cases h
  | some z =>
    rw [hw, Option.bind_some] at h
    obtain ⟨m, _, _, c, _⟩ := walk_grow h
    exact ⟨z.1, z.2.1, z.2.2, rfl, walk_mono h, c⟩
theorem skip_small {es : List Str} : ∀ {sts : List Sk} {x y : WS}, walk es sts x = some y → ∀ st ∈ sts, ∀ m, st = .skip m → m ≤ es.length
  | [], _, _, _ => fun _ z => nomatch z
  | st :: r, x, y, h => fun s hs m e => by
    obtain ⟨a, ha, hw⟩ := walk_cons h
    rcases List.mem_cons.mp hs with z | z
    · rw [z] at e
      subst e
      obtain ⟨hf, _⟩ := after_fst ha
      have hf' := Bool.and_eq_true_iff.mp (show (decide (1 ≤ x.1 ∧ x.1 + m ≤ es.length) && decide (es[x.1 + m - 1]? = es[x.1 - 1]?)) = true from hf)
      have := of_decide_eq_true hf'.1
      omega
    · exact skip_small hw s z m e
theorem loses (es : List Str) : ∀ (n : Nat) (x : WS), x.1 + n ≤ es.length → ∃ pl, walk es (List.replicate n .lose) x = some (x.1 + n, x.2.1, pl)
  | 0, x, _ => ⟨x.2.2, rfl⟩
  | n + 1, x, h => by
    have ha : after es x.1 x.2.1.getLast? .lose = some (x.1 + 1, []) := by
      unfold after
      rw [if_pos (show fitsB es x.1 x.2.1.getLast? .lose = true from decide_eq_true (by omega))]
      rfl
    obtain ⟨pl, e⟩ := loses es n (x.1 + 1, x.2.1 ++ [], x.2.2 ++ [x.1]) (by show x.1 + 1 + n ≤ _; omega)
    refine ⟨pl, ?_⟩
    rw [List.replicate_succ, cons_walk ha, e]
    show some (x.1 + 1 + n, x.2.1 ++ [], pl) = _
    rw [List.append_nil, show x.1 + 1 + n = x.1 + (n + 1) by omega]
/-! ### tuples cut -/
theorem cut_tup {H : Hp} {a : Addr} {xs : List V} {lo hi : Option Int} {Q : VK} (h : SqT K H a xs) (q : ∀ p H', Same H H' → SqT K H' p (cutV xs lo hi) → Q (.ref p) H') : rSlTA K (.ref a) lo hi H Q := by
  refine ⟨a, xs, rfl, h, fun hw => q a H (Same.refl _) ?_, fun _ p hp => q p _ (same_upd hp) (SqT.of upd_same)⟩
  have e : cutV xs lo hi = xs := by
    unfold cutV
    rw [hw.1, hw.2, List.drop_zero, Nat.sub_zero, List.take_length]
  rw [e]; exact h
theorem cutV_take {α : Type} (g : α → V) (xs : List α) (n : Nat) : cutV (xs.map g) none (some ((n : Nat) : Int)) = (xs.take n).map g := by
  unfold cutV
  rw [HT.sIx_none, HT.sIx_nat, List.drop_zero, Nat.sub_zero, List.length_map, ← List.map_take]
  congr 1
  by_cases h : n ≤ xs.length
  · rw [Nat.min_eq_left h]
  · rw [Nat.min_eq_right (by omega), List.take_length, List.take_of_length_le (by omega)]
theorem stepsTake {H : Hp} {ts : List Addr} {sts : List Sk} (h : StepsAt K H ts sts) (k : Nat) : StepsAt K H (ts.take k) (sts.take k) := by
  refine ⟨by rw [List.length_take, List.length_take, h.len], fun i t st e1 e2 => ?_⟩
  rw [List.getElem?_take] at e1 e2
  by_cases hi : i < k
  · rw [if_pos hi] at e1 e2
    exact h.item i t st e1 e2
  · rw [if_neg hi] at e1
    cases e1
/-! ### the law's own walk -/
structure RowsAt (H : Hp) (rs : List Addr) (es : List Str) (pr : List Int) (sts : List Sk) (n : Nat) : Prop where
  len : rs.length = n + 1
  item : ∀ (i : Nat) (r : Addr), rs[i]? = some r → ∃ d cp pl, walk es (sts.take i) (0, [], []) = some (d, cp, pl) ∧ H r = some (.tup [.int ((d : Nat) : Int), .int ((cp.length : Nat) : Int), .int (cost es pr pl (sts.take i))])
theorem RowsAt.mono {H H' : Hp} {rs : List Addr} {es : List Str} {pr : List Int} {sts : List Sk} {n : Nat} (S : Same H H') (h : RowsAt H rs es pr sts n) : RowsAt H' rs es pr sts n :=
  ⟨h.len, fun i r e => by
    obtain ⟨d, cp, pl, h1, h2⟩ := h.item i r e
    exact ⟨d, cp, pl, h1, S _ _ h2⟩⟩
theorem RowsAt.set {H : Hp} {l : Addr} {ys : List V} {o : HO} {rs : List Addr} {es : List Str} {pr : List Int} {sts : List Sk} {n : Nat} (h : RowsAt H rs es pr sts n) (hl : H l = some (.lst ys)) : RowsAt (upd H l o) rs es pr sts n :=
  ⟨h.len, fun i r e => by
    obtain ⟨d, cp, pl, h1, h2⟩ := h.item i r e
    have ne : r ≠ l := fun z => by rw [z, hl] at h2; cases h2
    exact ⟨d, cp, pl, h1, by rw [upd_ne ne]; exact h2⟩⟩
theorem RowsAt.snoc {H : Hp} {rs : List Addr} {es : List Str} {pr : List Int} {sts : List Sk} {n : Nat} {r : Addr} {d : Nat} {cp : List Str} {pl : List Nat} (h : RowsAt H rs es pr sts n) (hw : walk es (sts.take (n + 1)) (0, [], []) = some (d, cp, pl))
    (hr : H r = some (.tup [.int ((d : Nat) : Int), .int ((cp.length : Nat) : Int), .int (cost es pr pl (sts.take (n + 1)))])) : RowsAt H (rs ++ [r]) es pr sts (n + 1) := by
  refine ⟨by rw [List.length_append, h.len]; rfl, fun i r' e => ?_⟩
  by_cases hi : i < rs.length
  · rw [List.getElem?_append_left hi] at e
    exact h.item i r' e
  · rw [List.getElem?_append_right (by omega)] at e
    cases hj : i - rs.length with
    | zero =>
      rw [hj] at e
      cases e
      have ei : i = n + 1 := by have := h.len; omega
      rw [ei]
      exact ⟨d, cp, pl, hw, hr⟩
    | succ j => rw [hj] at e; simp at e
def spLWalk (K : PySem.W.Frag) : Sp := fun vs H Q _ => ∃ (p q r : Addr) (es : List Str) (ts : List Addr) (sts : List Sk) (pr : List Int) (d : Nat) (cp : List Str) (pl : List Nat), vs = [.ref p, .ref q, .ref r] ∧ SqT K H p (es.map V.str) ∧ (∀ z ∈ es, Good z) ∧ SqT K H q (ts.map V.ref) ∧ StepsAt K H ts sts ∧ SqT K H r (pr.map V.int) ∧ pr.length = 7 ∧ sts.length ≤ 200 ∧
  walk es sts (0, [], []) = some (d, cp, pl) ∧ ∀ (H' : Hp) (l lr tc : Addr) (rs : List Addr), Same H H' → H' l = some (.lst [.ref lr, .ref tc]) → H' lr = some (.lst (rs.map V.ref)) → RowsAt H' rs es pr sts sts.length → H' tc = some (.tup (cp.map V.str)) → Q (.ref l) H'
theorem scLWalk : FnScope ["elder", "steps", "prices", "rows", "copy", "done", "total", "step", "last", "after"] ["elder", "steps", "prices"] (defScope sLWalk) := ⟨rfl, rfl, rfl, by decide +kernel, rfl, by decide +kernel, by decide +kernel⟩
theorem ok_lwalk {f gLP gL : Addr} {fd dLP dL : FuncData} (F : Fun K "_law_walk" "_law_walk" sLWalk f fd) (DLP : Dfn K mg "_law_price" sLPrice gLP dLP ["elder", "done", "step", "prices"]) (DL : Dfn K mg "_law_after" sLAfter gL dL ["elder", "done", "last", "step"])
    (GLP : FnOk P w K mg base CX0 2 gLP dLP ["elder", "done", "step", "prices"] (spPrice K)) (GL : FnOk P w K mg base CX0 2 gL dL ["elder", "done", "last", "step"] (spLAfter K)) (mlen : mg "len" = none) (mtup : mg "tuple" = none) : FnOk P w K mg base CX0 3 f fd ["elder", "steps", "prices"] (spLWalk K) := by
  refine F.ok scLWalk (fun vs H Q E h => ?_) (fun cdv A outer s H vs Q E hr h => ?_)
  · obtain ⟨p, q, r, es, ts, sts, pr, d, cp, pl, rfl, _⟩ := h
    rfl
  · obtain ⟨p, q0, r, es, ts, sts, pr, dE, cpE, plE, rfl, hp, hg, hts, hst, hpr, hl7, hsl, hwk, q⟩ := h
    refine ⟨_, pss_cons (ps_set (i := 3) scLWalk.nd rfl (Or.inl rfl) (pe_lst (pa_cons (pe_tup (pa_cons pe_int (pa_cons pe_int (pa_cons pe_int pa_nil)))) pa_nil)))
      (pss_cons (ps_set (i := 4) scLWalk.nd rfl (Or.inl rfl) (pe_lst pa_nil))
      (pss_cons (ps_set (i := 5) scLWalk.nd rfl (Or.inl rfl) pe_int)
      (pss_cons (ps_set (i := 6) scLWalk.nd rfl (Or.inl rfl) pe_int)
      (pss_cons (ps_for PassesOwn.never rfl (pi_tup (pv 1)) (pg_name (i := 7) scLWalk.nd rfl (Or.inl rfl))
        (pss_cons (ps_set (i := 8) scLWalk.nd rfl (Or.inl rfl) pe_non)
        (pss_cons (ps_mid (ps_if (pt_cmpR op_gt (pe_callB call_len_seq (by rfl) mlen PySem.boot_len (pa_cons (pv 4) pa_nil)) pe_int (nomark _)) (pss_one (ps_set (i := 8) scLWalk.nd rfl (Or.inl rfl) (pe_ix ix_list (pv 4) (pe_un un_neg pe_int) (fun _ _ => rfl)))) pss_nil))
        (pss_cons (ps_set (i := 6) scLWalk.nd rfl (Or.inl rfl) (pe_op op_add (pv 6) (pe_call GLP hr (by rfl) DLP.at_ DLP.fn.kp DLP.bn .nil pass0 (pa_cons (pv 0) (pa_cons (pv 5) (pa_cons (pv 7) (pa_cons (pv 2) pa_nil)))))))
        (pss_cons (ps_set (i := 9) scLWalk.nd rfl (Or.inl rfl) (pe_call GL hr (by rfl) DL.at_ DL.fn.kp DL.bn .nil pass0 (pa_cons (pv 0) (pa_cons (pv 5) (pa_cons (pv 8) (pa_cons (pv 7) pa_nil))))))
        (pss_cons (ps_set (i := 5) scLWalk.nd rfl (Or.inl rfl) (pe_ix ix_tup (pv 9) pe_int (fun _ _ => rfl)))
        (pss_cons (ps_expr (pe_bm PySem.F.plainAttrs_list PySem.F.slot_list_extend PySem.F.type_list_extend mt_extendT (pv 4) (pa_cons (pe_ix ix_tup (pv 9) pe_int (fun _ _ => rfl)) pa_nil)))
        (pss_one (ps_expr (pe_bm PySem.F.plainAttrs_list PySem.F.slot_list_append PySem.F.type_list_append mt_append (pv 3) (pa_cons (pe_tup (pa_cons (pv 5) (pa_cons (pe_callB call_len_seq (by rfl) mlen PySem.boot_len (pa_cons (pv 4) pa_nil)) (pa_cons (pv 6) pa_nil)))) pa_nil)))))))))))
      (pss_one (ps_ret (pe_lst (pa_cons (pv 3) (pa_cons (pe_callTy call_tuple_of (by rfl) mtup boot_tuple (pa_cons (pv 4) pa_nil)) pa_nil))))))))), ?_⟩
    have z1 : (1 : Nat) ≤ sizeLine := few (by omega)
    have z2 : (2 : Nat) ≤ sizeLine := few (by omega)
    have z3 : (3 : Nat) ≤ sizeLine := few (by omega)
    refine ⟨z3, fun t0 ht0 => ⟨z1, fun l3 hl3 => ?_⟩⟩
    have U0 := same_upd (o := .tup [.int 0, .int 0, .int 0]) ht0
    have U1 := same_upd (o := .lst [.ref t0]) hl3
    refine ⟨Nat.zero_le _, fun l4 hl4 => ?_⟩
    have U2 := same_upd (o := .lst []) hl4
    have S0 := (U0.trans U1).trans U2
    have a3 : upd (upd (upd H t0 (.tup [.int 0, .int 0, .int 0])) l3 (.lst [.ref t0])) l4 (.lst []) l3 = some (.lst ([t0].map V.ref)) := U2 _ _ upd_same
    have a4 : upd (upd (upd H t0 (.tup [.int 0, .int 0, .int 0])) l3 (.lst [.ref t0])) l4 (.lst []) l4 = some (.lst (([] : List Str).map V.str)) := upd_same
    have a0 : upd (upd (upd H t0 (.tup [.int 0, .int 0, .int 0])) l3 (.lst [.ref t0])) l4 (.lst []) t0 = some (.tup [.int 0, .int 0, .int 0]) := U2 _ _ (U1 _ _ upd_same)
    obtain ⟨n43, _⟩ := free_ne hl4
    have hl3H : H l3 = none := (free_ne hl3).2
    have hl4H : H l4 = none := (free_ne (free_ne hl4).2).2
    generalize hH0 : upd (upd (upd H t0 (.tup [.int 0, .int 0, .int 0])) l3 (.lst [.ref t0])) l4 (.lst []) = H0 at S0 a3 a4 a0
    have R0 : RowsAt H0 [t0] es pr sts 0 := ⟨rfl, fun i r e => by
      cases i with
      | zero => cases e; exact ⟨0, [], [], rfl, a0⟩
      | succ i => simp at e⟩
    refine ⟨_, rfl, q0, rfl, ⟨_, sameT S0 hts⟩, for_tup (K := K) (a := q0) (xs := ts.map V.ref) (fun i σ H2 => ∃ (d : Nat) (cp : List Str) (pl : List Nat) (rs : List Addr) (v7 v8 v9 : Option V), σ = [some (.ref p), some (.ref q0), some (.ref r), some (.ref l3), some (.ref l4), some (.int (d : Nat)), some (.int (cost es pr pl (sts.take i))), v7, v8, v9] ∧
      H2 l3 = some (.lst (rs.map V.ref)) ∧ H2 l4 = some (.lst (cp.map V.str)) ∧ Same H H2 ∧ walk es (sts.take i) (0, [], []) = some (d, cp, pl) ∧ d ≤ es.length ∧ pl.length = i ∧ RowsAt H2 rs es pr sts i ∧ cp.length ≤ 2 * i)
      ⟨0, [], [], [t0], none, none, none, rfl, a3, a4, S0, rfl, Nat.zero_le _, rfl, R0, Nat.le_refl _⟩ (fun i σ H2 _ ⟨_, _, _, _, _, _, _, _, _, _, S, _⟩ => sameT S hts) ?_ ?_⟩
    · rintro i y σ H2 hi ⟨d, cp, pl, rs, v7, v8, v9, rfl, h3, h4, S, hw, hd, hpl, hR, hcl⟩
      obtain ⟨t, hti, rfl⟩ := ref_at hi
      have hil' : i < sts.length := by rw [← hst.len]; exact (List.getElem?_eq_some_iff.mp hti).1
      have hsi : sts[i]? = some sts[i] := List.getElem?_eq_getElem hil'
      generalize hgs : sts[i] = st at hsi
      obtain ⟨hT, hO⟩ := hst.item i t st hti hsi
      obtain ⟨d', ws, ha, hw'⟩ := walk_at hwk hsi hw
      have hto := after_turn ha
      have hwl : ws.length ≤ 2 := after_len ha
      refine ⟨fun σ' H' => σ' = [some (.ref p), some (.ref q0), some (.ref r), some (.ref l3), some (.ref l4), some (.int (d : Nat)), some (.int (cost es pr pl (sts.take i))), some (.ref t), some (optS cp.getLast?), v9] ∧ H' = H2, ?_, ?_⟩
      · refine ⟨_, rfl, l4, _, rfl, .inl (SqL.of h4), _, _, rfl, rfl, _, rfl, ?_⟩
        refine ite2 (fun h => ?_) (fun h => ?_)
        · have h0 := of_decide_eq_true h
          rw [List.length_map] at h0
          obtain ⟨l, el, al⟩ := last_at (cp := cp) (by omega)
          refine ⟨_, rfl, _, rfl, l4, _, _, _, rfl, rfl, SqL.of h4, al, ?_, rfl⟩
          rw [el]; rfl
        · have h0 : ¬ ((0 : Int) < ((cp.map V.str).length : Int)) := fun c => h (decide_eq_true c)
          rw [List.length_map] at h0
          have e0 : cp = [] := List.eq_nil_of_length_eq_zero (by omega)
          subst e0
          exact ⟨rfl, rfl⟩
      · rintro σ' H' ⟨rfl, rfl⟩
        refine ⟨_, rfl, _, rfl, _, rfl, _, rfl, _, rfl, p, t, r, es, d, st, pr, rfl, sameT S hp, hg, sameT S hT, hO, hto, sameT S hpr, hl7, _, _, rfl, rfl, ?_⟩
        refine ⟨_, rfl, _, rfl, _, rfl, _, rfl, p, t, es, d, cp.getLast?, st, rfl, sameT S hp, sameT S hT, hO, hd, ?_⟩
        rw [ha]
        intro t1 r1 ht1 hr1 hne
        have f1 : upd H' t1 (.tup (ws.map V.str)) r1 = none := by rw [upd_ne hne]; exact hr1
        have S1 := (same_upd (o := .tup (ws.map V.str)) ht1).trans (same_upd (o := .tup [.int (d' : Nat), .ref t1]) f1)
        generalize hH3 : upd (upd H' t1 (.tup (ws.map V.str))) r1 (.tup [.int (d' : Nat), .ref t1]) = H3 at S1
        have g1 : H3 r1 = some (.tup [.int (d' : Nat), .ref t1]) := by rw [← hH3]; exact upd_same
        have g2 : H3 t1 = some (.tup (ws.map V.str)) := by rw [← hH3, upd_ne (Ne.symm hne)]; exact upd_same
        have k3 := S1 _ _ h3
        have k4 := S1 _ _ h4
        refine ⟨_, rfl, r1, _, _, _, rfl, rfl, SqT.of g1, rfl, ?_⟩
        refine ⟨_, rfl, .inl ⟨rfl, _, SqL.of k4⟩, _, rfl, r1, _, _, _, rfl, rfl, SqT.of g1, rfl, l4, t1, _, _, rfl, rfl, k4, SqT.of g2, (by rw [List.length_map, List.length_map]; exact few (by omega)), ?_⟩
        have m4 : upd H3 l4 (.lst (cp.map V.str ++ ws.map V.str)) l4 = some (.lst ((cp ++ ws).map V.str)) := by rw [upd_same, List.map_append]
        have m3 : upd H3 l4 (.lst (cp.map V.str ++ ws.map V.str)) l3 = some (.lst (rs.map V.ref)) := by rw [upd_ne (Ne.symm n43)]; exact k3
        have mR := (hR.mono S1).set (o := .lst (cp.map V.str ++ ws.map V.str)) k4
        have mS := same_to (o := .lst (cp.map V.str ++ ws.map V.str)) (S.trans S1) hl4H
        generalize hH4 : upd H3 l4 (.lst (cp.map V.str ++ ws.map V.str)) = H4 at m4 m3 mR mS
        refine ⟨_, rfl, .inl ⟨rfl, _, SqL.of m3⟩, _, rfl, _, rfl, l4, _, rfl, .inl (SqL.of m4), _, rfl, z3, fun t5 ht5 => ?_⟩
        have S5 := same_upd (o := .tup [.int ((d' : Nat) : Int), .int ((((cp ++ ws).map V.str).length : Nat) : Int), .int (cost es pr pl (sts.take i) + price es d pr st)]) ht5
        have k5 := S5 _ _ m3
        refine ⟨l3, _, _, rfl, rfl, k5, (by rw [List.length_map, hR.len]; exact fewer (by omega)), ?_⟩
        have ec : cost es pr (pl ++ [d]) (sts.take (i + 1)) = cost es pr pl (sts.take i) + price es d pr st := by
          rw [take_snoc hsi, cost_snoc (by rw [hpl, List.length_take]; omega)]
        have t5' : upd H4 t5 (.tup [.int ((d' : Nat) : Int), .int ((((cp ++ ws).map V.str).length : Nat) : Int), .int (cost es pr pl (sts.take i) + price es d pr st)]) t5 = some (.tup [.int ((d' : Nat) : Int), .int (((cp ++ ws).length : Nat) : Int), .int (cost es pr (pl ++ [d]) (sts.take (i + 1)))]) := by
          rw [upd_same, ec, List.length_map]
        have n5 : t5 ≠ l3 := fun e => by rw [e, m3] at ht5; cases ht5
        refine ⟨d', cp ++ ws, pl ++ [d], rs ++ [t5], some (.ref t), some (optS cp.getLast?), some (.ref r1), ?_, by rw [upd_same, List.map_append]; rfl, by rw [upd_ne n43]; exact S5 _ _ m4, same_to (mS.trans S5) hl3H, hw', after_le ha hd, by rw [List.length_append, hpl]; rfl, ?_, by rw [List.length_append]; omega⟩
        · rw [ec]; rfl
        · have := (mR.mono S5).snoc hw' t5'
          exact this.set k5
    · rintro σ H2 ⟨d, cp, pl, rs, v7, v8, v9, rfl, h3, h4, S, hw, hd, hpl, hR, hcl⟩
      rw [List.length_map, hst.len] at hR
      rw [List.length_map, hst.len, List.take_length] at hw
      rw [hwk] at hw
      cases hw
      refine ⟨_, rfl, _, rfl, l4, _, rfl, .inl ⟨SqL.of h4, fun tc htc => ⟨z2, fun l hl => ?_⟩⟩⟩
      have Sa := same_upd (o := .tup (cpE.map V.str)) htc
      have Sb := same_upd (o := .lst [.ref l3, .ref tc]) hl
      exact q _ l l3 tc rs ((S.trans Sa).trans Sb) upd_same (Sb _ _ (Sa _ _ h3)) ((hR.mono Sa).mono Sb) (Sb _ _ upd_same)
/-! ### the law -/
def spLaw (K : PySem.W.Frag) : Sp := fun vs H Q _ => ∃ (a : Addr) (ns : List Int), vs = [.ref a] ∧ SqL K H a (ns.map V.int) ∧ ns.length ≤ 63 ∧ ∀ H', Q (.bl true) H'
theorem scLaw : FnScope ["script", "prices", "elder", "made", "steps", "walked", "text", "again", "k", "done", "many", "total", "part", "found"] ["script"] (defScope sLaw) := ⟨rfl, rfl, rfl, by decide +kernel, rfl, by decide +kernel, by decide +kernel⟩
theorem nd_ks : (["k", "script"] : List Str).Nodup := by decide +kernel
theorem range_facts : ∀ L, L < 201 → Builtin.Range.small (((L : Nat) : Int) % 3) (((L : Nat) : Int) + 1) 3 = true ∧ Builtin.Range.rangeSize (((L : Nat) : Int) % 3) (((L : Nat) : Int) + 1) 3 = ((L / 3 + 1 : Nat) : Int) := by decide +kernel
theorem cut_len (xs : List V) (lo m : Int) (h0 : 0 ≤ lo) (hm : 0 ≤ m) : (cutV xs (some lo) (some (lo + m))).length ≤ m.toNat := by
  unfold cutV
  have e1 : HT.sIx xs.length 0 (some lo) = min lo.toNat xs.length := by
    show (if lo < 0 then _ else _) = _
    rw [if_neg (by omega)]
  have e2 : HT.sIx xs.length xs.length (some (lo + m)) = min (lo + m).toNat xs.length := by
    show (if lo + m < 0 then _ else _) = _
    rw [if_neg (by omega)]
  rw [e1, e2, List.length_take, List.length_drop]
  omega
theorem cut_30 (xs : List V) : (cutV xs (some (-30)) none).length ≤ 30 := by
  unfold cutV
  have e1 : HT.sIx xs.length 0 (some (-30)) = ((-30 : Int) + (xs.length : Int)).toNat := by
    show (if (-30 : Int) < 0 then ((-30 : Int) + (xs.length : Int)).toNat else min ((-30 : Int)).toNat xs.length) = _
    rw [if_pos (by decide)]
  rw [e1, HT.sIx_none, List.length_take, List.length_drop]
  omega
theorem items_count : ∀ (sts : List Sk) (x : List Str × Nat), (∀ st ∈ sts, okS st) → x.2 + sts.length ≤ 1000 → (∀ z ∈ x.1, z.length ≤ 60) →
    ((sts.foldl wStep x).1 ++ kw (sts.foldl wStep x).2).length ≤ x.1.length + min x.2 1 + sts.length ∧ ∀ z ∈ (sts.foldl wStep x).1 ++ kw (sts.foldl wStep x).2, z.length ≤ 60
  | [], x, _, hn, hx => by
    have hn' : x.2 ≤ 1000 := hn
    refine ⟨by show (x.1 ++ kw x.2).length ≤ _; rw [List.length_append, kw_min]; omega, fun z hz => ?_⟩
    rcases List.mem_append.mp hz with hz | hz
    · exact hx z hz
    · exact (kw_len hn').2 z hz
  | st :: r, x, ho, hn, hx => by
    rw [List.length_cons] at hn
    have hr : ∀ s ∈ r, okS s := fun s hs => ho s (List.mem_cons_of_mem _ hs)
    rw [List.foldl_cons]
    cases hk : isKeep st with
    | true =>
      have e : wStep x st = (x.1, x.2 + 1) := by unfold wStep; rw [if_pos hk]
      have ih := items_count r (x.1, x.2 + 1) hr (by show x.2 + 1 + r.length ≤ 1000; omega) hx
      rw [e]
      refine ⟨Nat.le_trans ih.1 ?_, ih.2⟩
      show x.1.length + min (x.2 + 1) 1 + r.length ≤ _
      rw [List.length_cons]
      omega
    | false =>
      have e : wStep x st = (x.1 ++ kw x.2 ++ [itemS st], 0) := by unfold wStep; rw [if_neg (by rw [hk]; exact Bool.false_ne_true)]
      have ih := items_count r (x.1 ++ kw x.2 ++ [itemS st], 0) hr (by show 0 + r.length ≤ 1000; omega) (fun z hz => by
        rcases List.mem_append.mp hz with hz | hz
        · rcases List.mem_append.mp hz with hz | hz
          · exact hx z hz
          · exact (kw_len (by omega)).2 z hz
        · rw [List.mem_singleton.mp hz]; exact item_len (ho st List.mem_cons_self))
      rw [e]
      refine ⟨Nat.le_trans ih.1 ?_, ih.2⟩
      show (x.1 ++ kw x.2 ++ [itemS st]).length + 0 + r.length ≤ x.1.length + min x.2 1 + (r.length + 1)
      rw [List.length_append, List.length_append, kw_min]
      show _ + _ + 1 + 0 + _ ≤ _
      omega
theorem text_len10 {sts : List Sk} (ho : ∀ st ∈ sts, okS st) (hn : sts.length ≤ 80) : (textS sts).length ≤ 9000 := by
  obtain ⟨h1, h2⟩ := items_count sts ([], 0) ho (by show 0 + sts.length ≤ 1000; omega) (fun _ z => nomatch z)
  have h1' : (itemsS sts).length ≤ 0 + 0 + sts.length := h1
  have h3 := sum60 (ws := itemsS sts) h2
  unfold textS
  rw [cm_eq]
  show (Builtin.Str.glued cm (itemsS sts)).length ≤ _
  rw [StrLaws.glued_eq_join]
  have h4 := StrLaws.join_length_le cm (itemsS sts)
  have e : cm.length = 2 := rfl
  rw [e] at h4
  omega
theorem ok_law {f gH gI gLk gWr gN gSk gF gD gW gA gWk gCp gP gCo gKW gSW gWt gC gPr gIt gR gCe gWd gO gRo gWh gL gS gSt gLA gLP gLW aB aW aD CN : Addr} {fd dH dI dLk dWr dN dSk dF dD dW dA dWk dCp dP dCo dKW dSW dWt dC dPr dIt dR dCe dWd dO dRo dWh dL dS dSt dLA dLP dLW : FuncData} {esD : Array DictEntry} {nD : Nat} (F : Fun K "law" "law" sLaw f fd)
    (DH : Dfn K mg "has_only" sHas gH dH ["text", "signs"]) (DI : Dfn K mg "is_word" sIsW gI dI ["text"]) (DLk : Dfn K mg "looks_alike" sLooks gLk dLk ["one", "two"]) (DWr : Dfn K mg "writes_number" sWr gWr dWr ["text"]) (DN : Dfn K mg "number_of" sNum gN dN ["text", "most"])
    (DSk : Dfn K mg "skip_fits" sSkF gSk dSk ["elder", "done", "many"]) (DF : Dfn K mg "step_fits" sFits gF dF ["elder", "done", "last", "step"]) (DD : Dfn K mg "words_done" sWd gD dD ["step"]) (DW : Dfn K mg "words_written" sWw gW dW ["elder", "done", "last", "step"]) (DA : Dfn K mg "step_after" sAfter gA dA ["elder", "done", "last", "step"])
    (DWk : Dfn K mg "steps_walked" sWalk gWk dWk ["elder", "steps"]) (DCp : Dfn K mg "copy_made" sCopy gCp dCp ["elder", "steps"]) (DP : Dfn K mg "step_price" sPrice gP dP ["elder", "done", "step", "prices"]) (DCo : Dfn K mg "slips_price" sCost gCo dCo ["elder", "steps", "prices"])
    (DKW : Dfn K mg "keeps_written" sKW gKW dKW ["many"]) (DSW : Dfn K mg "step_written" sSW gSW dSW ["step"]) (DWt : Dfn K mg "slips_written" sWrt gWt dWt ["steps"]) (DC : Dfn K mg "count_read" sCnt gC dC ["text"]) (DPr : Dfn K mg "pair_read" sPair gPr dPr ["kind", "said"]) (DIt : Dfn K mg "item_read" sItem gIt dIt ["item"]) (DR : Dfn K mg "slips_read" sRd gR dR ["text"])
    (DCe : Dfn K mg "_law_cell" sCell gCe dCe ["script", "k"]) (DWd : Dfn K mg "_law_word" sWord gWd dWd ["cell"]) (DO : Dfn K mg "_law_other" sOther gO dO ["word", "place", "step"]) (DRo : Dfn K mg "_law_row" sRow gRo dRo ["cells"]) (DWh : Dfn K mg "_law_whole" sWhole gWh dWh ["found"]) (DL : Dfn K mg "_law_after" sLAfter gL dL ["elder", "done", "last", "step"]) (DS : Dfn K mg "_law_step" sStep gS dS ["elder", "done", "cell"]) (DSt : Dfn K mg "_law_steps" sSteps gSt dSt ["elder", "cells", "good"])
    (DLA : Dfn K mg "_law_alike" sLAlk gLA dLA ["one", "two"]) (DLP : Dfn K mg "_law_price" sLPrice gLP dLP ["elder", "done", "step", "prices"]) (DLW : Dfn K mg "_law_walk" sLWalk gLW dLW ["elder", "steps", "prices"])
    (mall : mg "all" = none) (mlen : mg "len" = none) (mrange : mg "range" = none) (misi : mg "isinstance" = none) (mtup : mg "tuple" = none) (mstr : mg "str" = none) (mint : mg "int" = none) (mbool : mg "bool" = none) (msum : mg "sum" = none) (mzip : mg "zip" = none)
    {tl tf tm ts tw tk : Tok} (mL : mg "LETTERS" = some (.str letters tl)) (mF : mg "FIGURES" = some (.str figures tf)) (mM : mg "MOST_LETTERS" = some (.int 12 tm)) (mS : mg "MOST_STEPS" = some (.int 80 ts)) (mBK : mg "BARE_KINDS" = some (.ref aB)) (mWK : mg "WORD_KINDS" = some (.ref aW)) (mW : mg "MOST_WORDS" = some (.int 40 tw)) (mLk : mg "LIKE" = some (.int 0 tk)) (mP : mg "PRICE_PLACES" = some (.ref aD)) (m7 : mg "NoSlips" = some (.ref CN))
    (xC : VEx K CN) (hBK : ∀ H, SqT K H aB [.str (Str.ofString "lose"), .str (Str.ofString "twice"), .str (Str.ofString "swap")]) (hWK : ∀ H, SqT K H aW [.str (Str.ofString "turn"), .str (Str.ofString "add")]) (i6 : PySem.W.kitOne K (.type "int") (.type "bool") = some false) (PL : Places w K aD esD nD) :
    FnOk P w K mg base CX0 8 f fd ["script"] (spLaw K) := by
  have GI : FnOk P w K mg base CX0 2 gI dI ["text"] spIsW := ok_isw DI.fn DH mall mlen mL mM
  have GN : FnOk P w K mg base CX0 3 gN dN ["text", "most"] spNum := ok_num DN.fn DWr DH mall mlen mstr mint mF
  have GC : FnOk P w K mg base CX0 4 gC dC ["text"] spCnt := ok_cnt DC.fn DN GN mS
  have GPr : FnOk P w K mg base CX0 5 gPr dPr ["kind", "said"] spPair := ok_pair DPr.fn DI DC GI GC mWK hWK
  have GIt : FnOk P w K mg base (CXv P w) 6 gIt dIt ["item"] (spItem CN) := ok_item DIt.fn DC DPr GC GPr mBK hBK m7 xC mlen
  have GR : FnOk P w K mg base (CXv P w) 7 gR dR ["text"] (spRd CN) := ok_rd DR.fn DIt GIt m7 xC mlen mtup mS
  have GWt : FnOk P w K mg base CX0 7 gWt dWt ["steps"] (spWrt K) := (ok_wrt DWt.fn DKW DSW mstr).mono (by decide)
  have GRo : FnOk P w K mg base CX0 7 gRo dRo ["cells"] (spRow K) := (ok_row DRo.fn DWd DO mlen mrange).mono (by decide)
  have GCe : FnOk P w K mg base CX0 7 gCe dCe ["script", "k"] (spCell K) := (ok_cell DCe.fn mlen).mono (by decide)
  have GS : FnOk P w K mg base CX0 2 gS dS ["elder", "done", "cell"] (spStep K) := ok_step DS.fn DWd DO mlen mrange
  have GL : FnOk P w K mg base CX0 2 gL dL ["elder", "done", "last", "step"] (spLAfter K) := (ok_lafter DL.fn mlen).mono (by decide)
  have GSt : FnOk P w K mg base CX0 7 gSt dSt ["elder", "cells", "good"] (spSteps K) := (ok_steps DSt.fn DS DL GS GL mlen).mono (by decide)
  have GA : FnOk P w K mg base (CXv P w) 3 gA dA ["elder", "done", "last", "step"] (spAfter K CN) := ok_after DA.fn DF DSk DD DW m7 xC mlen
  have GWk : FnOk P w K mg base (CXv P w) 4 gWk dWk ["elder", "steps"] (spWalk K CN) := ok_walk DWk.fn DA GA m7 xC mlen mtup mW
  have GCp : FnOk P w K mg base (CXv P w) 7 gCp dCp ["elder", "steps"] (spCopy K CN) := (ok_copy DCp.fn DWk GWk).mono (by decide)
  have GLk : FnOk P w K mg base CX0 1 gLk dLk ["one", "two"] spAlike := ok_Looks DLk.fn mlen mrange
  have GLA : FnOk P w K mg base CX0 1 gLA dLA ["one", "two"] spAlike := ok_lalk DLA.fn mlen mrange mint msum
  have GP : FnOk P w K mg base CX0 2 gP dP ["elder", "done", "step", "prices"] (spPrice K) := ok_price DP.fn DLk GLk mLk mP PL
  have GLP : FnOk P w K mg base CX0 2 gLP dLP ["elder", "done", "step", "prices"] (spPrice K) := ok_lprice DLP.fn DLA GLA mint
  have GWh : FnOk P w K mg base CX0 7 gWh dWh ["found"] spWhole := (ok_whole DWh.fn misi mint mbool i6).mono (by decide)
  have GCo : FnOk P w K mg base (CXv P w) 7 gCo dCo ["elder", "steps", "prices"] (spCost K CN) := (ok_cost DCo.fn DWk GWk DP (GP.mono (by decide)) msum mzip).mono (by decide)
  have GLW : FnOk P w K mg base CX0 7 gLW dLW ["elder", "steps", "prices"] (spLWalk K) := (ok_lwalk DLW.fn DLP DL GLP GL mlen mtup).mono (by decide)
  refine F.ok scLaw (fun vs H Q E h => ?_) (fun cdv A outer s H vs Q E hr h => ?_)
  · obtain ⟨a, ns, rfl, _⟩ := h
    rfl
  · obtain ⟨a, ns, rfl, hS, hn, q⟩ := h
    refine ⟨_, pss_cons (ps_set (i := 1) scLaw.nd rfl (Or.inl rfl) (pe_callTy call_tuple_of (by rfl) mtup boot_tuple (pa_cons (pe_comp (Nc := ["k", "script"]) (mp := [none, some 0]) rfl (CompOk.of (by rfl)) (pi_range1 (by rfl) mrange (pa_cons pe_int pa_nil))
        (fun cl C s H fp => ⟨pg_name (i := 0) nd_ks rfl (Or.inl rfl), pts_nil, pe_op op_mod (pe_call GCe hr (by rfl) DCe.at_ DCe.fn.kp DCe.bn .nil pass0 (pa_cons (pv 1) (pa_cons (pv 0) pa_nil))) (pe_op op_add (pe_op op_pow pe_int pe_int) pe_int)⟩)) pa_nil)))
      (pss_cons (ps_set (i := 2) scLaw.nd rfl (Or.inl rfl) (pe_callTy call_tuple_of (by rfl) mtup boot_tuple (pa_cons (pe_call GRo hr (by rfl) DRo.at_ DRo.fn.kp DRo.bn .nil pass0 (pa_cons (pe_slice sl_lst (pv 0) (po_some pe_int) (po_some (pe_op op_add pe_int (pe_op op_mod (pe_call GCe hr (by rfl) DCe.at_ DCe.fn.kp DCe.bn .nil pass0 (pa_cons (pv 0) (pa_cons pe_int pa_nil))) pe_int)))) pa_nil)) pa_nil)))
      (pss_cons (ps_set (i := 3) scLaw.nd rfl (Or.inl rfl) (pe_call GSt hr (by rfl) DSt.at_ DSt.fn.kp DSt.bn .nil pass0 (pa_cons (pv 2) (pa_cons (pe_slice sl_lst (pe_slice sl_lst (pv 0) (po_some pe_int) po_none) (po_some (pe_un un_neg pe_int)) po_none) (pa_cons pe_bl pa_nil)))))
      (pss_cons (ps_set (i := 4) scLaw.nd rfl (Or.inl rfl) (pe_callTy call_tuple_of (by rfl) mtup boot_tuple (pa_cons (pe_op op_cat (pe_ix ix_list (pv 3) pe_int (fun _ _ => rfl)) (pe_op op_rep (pe_lst (pa_cons (pe_tup (pa_cons pe_str pa_nil)) pa_nil)) (pe_op op_sub (pe_callB call_len_seq (by rfl) mlen PySem.boot_len (pa_cons (pv 2) pa_nil)) (pe_ix ix_list (pv 3) pe_int (fun _ _ => rfl))))) pa_nil)))
      (pss_cons (ps_set (i := 5) scLaw.nd rfl (Or.inl rfl) (pe_call GLW hr (by rfl) DLW.at_ DLW.fn.kp DLW.bn .nil pass0 (pa_cons (pv 2) (pa_cons (pv 4) (pa_cons (pv 1) pa_nil)))))
      (pss_cons (ps_set (i := 6) scLaw.nd rfl (Or.inl rfl) (pe_call GWt hr (by rfl) DWt.at_ DWt.fn.kp DWt.bn .nil pass0 (pa_cons (pv 4) pa_nil)))
      (pss_cons (ps_set (i := 7) scLaw.nd rfl (Or.inl rfl) (pe_call GR hr (by rfl) DR.at_ DR.fn.kp DR.bn .nil passE (pa_cons (pv 6) pa_nil)))
      (pss_cons (ps_mid (ps_if (pw_or (pt_not (pt_val (pe_callB call_isi (by rfl) misi boot_isinstance (pa_cons (pv 6) (pa_cons (pe_bltn (v := .ty "str") (by rfl) mstr boot_str rfl) pa_nil))))) (pw_or (pt_cmpR (op_neS hr.units) (pv 7) (pv 4) (nomark _)) (pw_or1 (pt_cmpR (op_neS hr.units) (pe_call GCp hr (by rfl) DCp.at_ DCp.fn.kp DCp.bn .nil passE (pa_cons (pv 2) (pa_cons (pv 7) pa_nil))) (pe_ix ix_list (pv 5) pe_int (fun _ _ => rfl)) (nomark _))))).pt (pss_one (ps_ret pe_bl)) pss_nil))
      (pss_cons (ps_for PassesOwn.never rfl (pi_range3 (by rfl) mrange (pa_cons (pe_op op_mod (pe_callB call_len_seq (by rfl) mlen PySem.boot_len (pa_cons (pv 4) pa_nil)) pe_int) (pa_cons (pe_op op_add (pe_callB call_len_seq (by rfl) mlen PySem.boot_len (pa_cons (pv 4) pa_nil)) pe_int) (pa_cons pe_int pa_nil)))) (pg_name (i := 8) scLaw.nd rfl (Or.inl rfl))
        (pss_cons (ps_asg (pe_ix ix_list (pe_ix ix_list (pv 5) pe_int (fun _ _ => rfl)) (pv 8) (fun _ _ => rfl)) (pg_tup (n := 3) rfl (pgs_cons (pg_name (i := 9) scLaw.nd rfl (Or.inl rfl)) (pgs_cons (pg_name (i := 10) scLaw.nd rfl (Or.inl rfl)) (pgs_cons (pg_name (i := 11) scLaw.nd rfl (Or.inl rfl)) pgs_nil)))))
        (pss_cons (ps_set (i := 12) scLaw.nd rfl (Or.inl rfl) (pe_call GCp hr (by rfl) DCp.at_ DCp.fn.kp DCp.bn .nil passE (pa_cons (pe_slice sl_tupA (pv 2) po_none (po_some (pv 9))) (pa_cons (pe_slice sl_tupA (pv 4) po_none (po_some (pv 8))) pa_nil))))
        (pss_cons (ps_mid (ps_if (pw_or (pt_not (pt_val (pe_callB call_isi (by rfl) misi boot_isinstance (pa_cons (pv 12) (pa_cons (pe_bltn (v := .ty "tuple") (by rfl) mtup boot_tuple rfl) pa_nil))))) (pw_or1 (pt_cmpR (op_neS hr.units) (pv 12) (pe_slice sl_tupA (pe_ix ix_list (pv 5) pe_int (fun _ _ => rfl)) po_none (po_some (pv 10))) (nomark _)))).pt (pss_one (ps_ret pe_bl)) pss_nil))
        (pss_cons (ps_set (i := 13) scLaw.nd rfl (Or.inl rfl) (pe_call GCo hr (by rfl) DCo.at_ DCo.fn.kp DCo.bn .nil passE (pa_cons (pe_slice sl_tupA (pv 2) po_none (po_some (pv 9))) (pa_cons (pe_slice sl_tupA (pv 4) po_none (po_some (pv 8))) (pa_cons (pv 1) pa_nil)))))
        (pss_one (ps_if (pw_or (pt_not (pt_val (pe_call GWh hr (by rfl) DWh.at_ DWh.fn.kp DWh.bn .nil pass0 (pa_cons (pv 13) pa_nil)))) (pw_or1 (pt_cmpR op_ne (pv 13) (pv 11) (nomark _)))).pt (pss_one (ps_ret pe_bl)) pss_nil)))))))
      (pss_one (ps_ret pe_bl)))))))))), ?_⟩
    have hM : (0 : Int) < 10 ^ 30 + 1 := by decide
    -- prices
    refine ⟨7, rfl, by decide, by decide, comp_map (as := List.range 7) (v := fun i => .int (0 + (i : Nat))) (fun i => .int (cellD ns (0 + (i : Nat)) % (10 ^ 30 + 1))) (src_range 0 7 H) (by rw [List.length_range]; exact few (by omega)) (fun i hi k hk => ?_) (fun D hD => ?_)⟩
    · exact ⟨_, rfl, _, rfl, a, ns, _, rfl, hS, by omega, _, _, rfl, rfl, ⟨by decide, by decide, by decide⟩, _, _, rfl, rfl, _, _, rfl, rfl, hM, hk⟩
    obtain ⟨ps, hps⟩ : ∃ ps : List Int, ps = (List.range 7).map fun i => cellD ns (0 + (i : Nat)) % (10 ^ 30 + 1) := ⟨_, rfl⟩
    have ep : ((List.range 7).map fun i => V.int (cellD ns (0 + ((i : Nat) : Int)) % (10 ^ 30 + 1))) = ps.map V.int := by rw [hps, List.map_map]; rfl
    rw [ep]
    have hpl : ps.length = 7 := by rw [hps, List.length_map, List.length_range]
    refine ⟨D, _, rfl, .inl ⟨SqL.of upd_same, fun rP hrP => ?_⟩⟩
    have S1 := (same_upd (o := .lst (ps.map V.int)) hD).trans (same_upd (o := .tup (ps.map V.int)) hrP)
    generalize hH1 : upd (upd H D (.lst (ps.map V.int))) rP (.tup (ps.map V.int)) = H1 at S1
    have g1 : H1 rP = some (.tup (ps.map V.int)) := by rw [← hH1]; exact upd_same
    have hS1 := S1.seq hS
    -- elder
    refine ⟨_, rfl, _, rfl, _, rfl, a, ns, _, rfl, hS1, by decide, _, _, rfl, rfl, (by show (0 : Int) < 21; decide), _, _, rfl, rfl, _, rfl, a, _, rfl, hS1, fun c hc => ?_⟩
    obtain ⟨ms, em, hml, _⟩ := cut_any ns (some 8) (some (8 + cellD ns 7 % 21))
    rw [em]
    refine ⟨c, ms, rfl, SqL.of upd_same, by omega, fun p ws hp hws hg => ?_⟩
    refine ⟨p, _, rfl, .inl ⟨SqL.of upd_same, fun e he => ?_⟩⟩
    have U4 := ((same_upd (o := .lst (ms.map V.int)) hc).trans (same_upd (o := .lst (ws.map V.str)) hp)).trans (same_upd (o := .tup (ws.map V.str)) he)
    have S4 := S1.trans U4
    generalize hH4 : upd (upd (upd H1 c (.lst (ms.map V.int))) p (.lst (ws.map V.str))) e (.tup (ws.map V.str)) = H4 at S4 U4
    have e4 : H4 e = some (.tup (ws.map V.str)) := by rw [← hH4]; exact upd_same
    have g4 := U4 _ _ g1
    have hS4 := S4.seq hS
    have hlen : (ws.map V.str).length = ws.length := List.length_map ..
    -- made
    obtain ⟨x1, ex1, hx1, _⟩ := cut_any ns (some 8) none
    refine ⟨_, rfl, _, rfl, _, rfl, a, _, rfl, hS4, fun c5 hc5 => ?_⟩
    rw [ex1]
    obtain ⟨x2, ex2, hx2, _⟩ := cut_any x1 (some (-30)) none
    have T5 := same_upd (o := .lst (x1.map V.int)) hc5
    refine ⟨_, rfl, _, rfl, c5, _, rfl, SqL.of upd_same, fun c6 hc6 => ?_⟩
    have ex2' : cutV (x1.map V.int) (some (-30)) none = x2.map V.int := ex2
    rw [ex2']
    have T6 := same_upd (o := .lst (x2.map V.int)) hc6
    have S6 := (S4.trans T5).trans T6
    have e6 := T6 _ _ (T5 _ _ e4)
    have g6 := T6 _ _ (T5 _ _ g4)
    have f6 : upd (upd H4 c5 (.lst (x1.map V.int))) c6 (.lst (x2.map V.int)) c6 = some (.lst (x2.map V.int)) := upd_same
    generalize hH6 : upd (upd H4 c5 (.lst (x1.map V.int))) c6 (.lst (x2.map V.int)) = H6 at S6 e6 g6 f6
    refine ⟨e, c6, ws, x2, true, rfl, SqT.of e6, hg, by omega, SqL.of f6, by omega, ?_⟩
    intro H7 r l1 l2 ts sts d cp S67 hr7 hl7 hA7 hd hsl hcp hwk
    obtain ⟨pl, hwk⟩ := hwk rfl
    have S7 := S6.trans S67
    have e7 := S67 _ _ e6
    have g7 := S67 _ _ g6
    -- steps
    refine ⟨_, rfl, r, _, _, _, rfl, rfl, SqL.of hr7, rfl, few (by show 1 ≤ _; omega), fun t0 ht0 => ?_⟩
    have U0 := same_upd (o := .tup [.str (Str.ofString "lose")]) ht0
    refine ⟨few (by show 1 ≤ _; omega), fun t1 ht1 => ?_⟩
    have U1 := same_upd (o := .lst [.ref t0]) ht1
    have k0 := U1 _ _ (upd_same (H := H7) (a := t0) (o := .tup [.str (Str.ofString "lose")]))
    have U := U0.trans U1
    refine ⟨_, rfl, e, _, rfl, .inr (SqT.of (U _ _ e7)), _, rfl, r, _, _, _, rfl, rfl, SqL.of (U _ _ hr7), rfl, _, _, rfl, rfl, ?_⟩
    refine ⟨t1, (((ws.map V.str).length : Int) - ((d : Nat) : Int)), _, rfl, rfl, upd_same, by omega, by omega, (by show 1 * (((ws.map V.str).length : Int) - ((d : Nat) : Int)).toNat ≤ sizeLine; exact few (by omega)), fun l5 hl5 => ?_⟩
    rw [repFlat]
    have enk : (((ws.map V.str).length : Int) - ((d : Nat) : Int)).toNat = ws.length - d := by rw [hlen]; omega
    rw [enk]
    have U5 := same_upd (o := .lst (List.replicate (ws.length - d) (V.ref t0))) hl5
    have hl7' := U5 _ _ (U _ _ hl7)
    have k5 := U5 _ _ k0
    refine ⟨l1, l5, _, _, rfl, rfl, hl7', upd_same, (by rw [List.length_map, List.length_replicate, hA7.len]; exact few (by omega)), fun l6 hl6 => ?_⟩
    have U6 := same_upd (o := .lst (ts.map V.ref ++ List.replicate (ws.length - d) (V.ref t0))) hl6
    refine ⟨l6, _, rfl, .inl ⟨SqL.of upd_same, fun q8 hq8 => ?_⟩⟩
    have U7 := same_upd (o := .tup (ts.map V.ref ++ List.replicate (ws.length - d) (V.ref t0))) hq8
    have V8 := ((U.trans U5).trans U6).trans U7
    have n8 : upd (upd (upd (upd (upd H7 t0 (.tup [.str (Str.ofString "lose")])) t1 (.lst [.ref t0])) l5 (.lst (List.replicate (ws.length - d) (V.ref t0)))) l6 (.lst (ts.map V.ref ++ List.replicate (ws.length - d) (V.ref t0)))) q8 (.tup (ts.map V.ref ++ List.replicate (ws.length - d) (V.ref t0))) q8 = some (.tup ((ts ++ List.replicate (ws.length - d) t0).map V.ref)) := by
      rw [upd_same, List.map_append, List.map_replicate]
    have k8 := U7 _ _ (U6 _ _ k5)
    generalize hH8 : upd (upd (upd (upd (upd H7 t0 (.tup [.str (Str.ofString "lose")])) t1 (.lst [.ref t0])) l5 (.lst (List.replicate (ws.length - d) (V.ref t0)))) l6 (.lst (ts.map V.ref ++ List.replicate (ws.length - d) (V.ref t0)))) q8 (.tup (ts.map V.ref ++ List.replicate (ws.length - d) (V.ref t0))) = H8 at V8 n8 k8
    have A8 : StepsAt K H8 (ts ++ List.replicate (ws.length - d) t0) (sts ++ List.replicate (ws.length - d) .lose) := StepsAt.rep (st := .lose) (SqT.of k8) trivial _ (hA7.mono V8)
    have W8 : ∃ pl8, walk ws (sts ++ List.replicate (ws.length - d) .lose) (0, [], []) = some (ws.length, cp, pl8) := by
      obtain ⟨p8, h8⟩ := loses ws (ws.length - d) (d, cp, pl) (by show d + (ws.length - d) ≤ _; omega)
      refine ⟨p8, ?_⟩
      rw [walk_append, hwk, Option.bind_some, h8]
      show some (d + (ws.length - d), cp, p8) = _
      rw [show d + (ws.length - d) = ws.length by omega]
    obtain ⟨pl8, W8⟩ := W8
    have hx2l : x2.length ≤ 30 := by
      have := cut_30 (x1.map V.int)
      rw [ex2', List.length_map] at this
      exact this
    have hms : ms.length ≤ 20 := by
      have h0 := Int.emod_nonneg (cellD ns 7) (show (21 : Int) ≠ 0 by decide)
      have h1 := Int.emod_lt_of_pos (cellD ns 7) (show (0 : Int) < 21 by decide)
      have := cut_len (ns.map V.int) 8 (cellD ns 7 % 21) (by decide) h0
      rw [em, List.length_map] at this
      omega
    have hwl : ws.length ≤ 20 := by omega
    have L8 : (sts ++ List.replicate (ws.length - d) Sk.lose).length ≤ 80 := by rw [List.length_append, List.length_replicate]; omega
    have S8 := S7.trans V8
    have e8 := V8 _ _ e7
    have g8 := V8 _ _ g7
    generalize hts8 : ts ++ List.replicate (ws.length - d) t0 = ts8 at n8 A8
    generalize hst8 : sts ++ List.replicate (ws.length - d) Sk.lose = st8 at A8 W8 L8
    -- walked
    refine ⟨_, rfl, _, rfl, _, rfl, e, q8, rP, ws, ts8, st8, ps, ws.length, cp, pl8, rfl, SqT.of e8, hg, SqT.of n8, A8, SqT.of g8, hpl, by omega, W8, ?_⟩
    intro H9 lw lr tc rs S89 hlw hlr hR htc
    have e9 := S89 _ _ e8
    have g9 := S89 _ _ g8
    have n9 := S89 _ _ n8
    have A9 := A8.mono S89
    -- text, again
    refine ⟨_, rfl, q8, ts8, st8, rfl, SqT.of n9, A9, by omega, ?_⟩
    have ok8 : ∀ st ∈ st8, ok80 st := fun st hs => by
      obtain ⟨i, hi, ei⟩ := List.mem_iff_getElem.mp hs
      have hit : i < ts8.length := by rw [A9.len]; exact hi
      refine ⟨(A9.item i ts8[i] st (List.getElem?_eq_getElem hit) (by rw [List.getElem?_eq_getElem hi, ei])).2, fun m em => ?_⟩
      have := skip_small W8 st hs m em
      omega
    have r8 : readS (textS st8) = some st8 := readS_text ok8 L8
    refine ⟨_, rfl, textS st8, rfl, text_len10 (fun st hs => (ok8 st hs).1) L8, ?_⟩
    rw [r8]
    intro H10 r10 ts10 S910 hr10 hT10
    have e10 := S910 _ _ e9
    have g10 := S910 _ _ g9
    have n10 := S910 _ _ n9
    have A10 := A9.mono S910
    have lw10 := S910 _ _ hlw
    have lr10 := S910 _ _ hlr
    have tc10 := S910 _ _ htc
    have R10 := hR.mono S910
    have hm8 : made ws st8 = some (cp, pl8) := by
      unfold made
      rw [W8, Option.bind_some]
      show (if ws.length < ws.length ∨ 40 < cp.length then none else some (cp, pl8)) = _
      rw [if_neg (by omega)]
    have hw40 : (cp.map V.str).all flatV = true := by rw [List.all_map, List.all_eq_true]; exact fun _ _ => rfl
    refine ⟨fun σ' H' => σ' = [some (.ref a), some (.ref rP), some (.ref e), some (.ref r), some (.ref q8), some (.ref lw), some (.str (textS st8)), some (.ref r10), none, none, none, none, none, none] ∧ Same H10 H', ?_, ?_⟩
    · refine ⟨_, rfl, _, _, _, _, rfl, .str _, kit_same _, _, rfl, iteF ?_⟩
      refine ⟨_, rfl, _, rfl, 1, true, by decide, EqS.yes (.inr ⟨SqT.of hr10, SqT.of n10⟩) (by rw [List.length_map, List.length_map, hT10.len, A10.len]) (fun i x y hx hy => ?_), _, rfl, iteF ?_⟩
      · obtain ⟨t, hti, rfl⟩ := ref_at hx
        obtain ⟨u, hui, rfl⟩ := ref_at hy
        have hi : i < st8.length := by rw [← hT10.len]; exact (List.getElem?_eq_some_iff.mp hti).1
        have es := List.getElem?_eq_getElem hi
        exact EqS.q (EqS.same (.inr ⟨SqT.of (hT10.item i t _ hti es).1, (A10.item i u _ hui es).1⟩) (step_flat _))
      · refine ⟨_, rfl, _, rfl, e, r10, ws, ts10, st8, rfl, SqT.of e10, SqT.of hr10, hT10.at, by omega, ?_⟩
        rw [hm8]
        intro a11 ha11
        have S11 := same_upd (o := .tup (cp.map V.str)) ha11
        refine ⟨_, rfl, lw, _, _, _, rfl, rfl, SqL.of (S11 _ _ lw10), rfl, 0, true, by decide, EqS.same (.inr ⟨SqT.of upd_same, SqT.of (S11 _ _ tc10)⟩) hw40, _, rfl, iteF ⟨rfl, S11⟩⟩
    rintro σ' H11 ⟨rfl, S11⟩
    have e11 := S11 _ _ e10
    have g11 := S11 _ _ g10
    have n11 := S11 _ _ n10
    have A11 := A10.mono S11
    have lw11 := S11 _ _ lw10
    have lr11 := S11 _ _ lr10
    have tc11 := S11 _ _ tc10
    have R11 := R10.mono S11
    have hl8 : (ts8.map V.ref).length = st8.length := by rw [List.length_map, A11.len]
    have rf := range_facts st8.length (by omega)
    -- parts
    refine ⟨_, rfl, q8, _, rfl, .inr (SqT.of n11), _, _, rfl, rfl, (by show (0 : Int) < 3; decide), _, rfl, q8, _, rfl, .inr (SqT.of n11), _, _, rfl, rfl, ?_⟩
    rw [hl8]
    refine ⟨_, _, _, st8.length / 3 + 1, rfl, by decide, by decide, rf.1, rf.2, ?_⟩
    refine for_range3 (fun i σ H' => ∃ v8 v9 v10 v11 v12 v13 : Option V, σ = [some (.ref a), some (.ref rP), some (.ref e), some (.ref r), some (.ref q8), some (.ref lw), some (.str (textS st8)), some (.ref r10), v8, v9, v10, v11, v12, v13] ∧ Same H11 H') ⟨none, none, none, none, none, none, rfl, Same.refl _⟩ ?_ ?_
    · rintro i σ H12 hi ⟨v8, v9, v10, v11, v12, v13, rfl, S12⟩
      have ek : ((st8.length : Nat) : Int) % 3 + ((i : Nat) : Int) * 3 = ((st8.length % 3 + i * 3 : Nat) : Int) := by omega
      rw [ek]
      have hkl : st8.length % 3 + i * 3 ≤ st8.length := by omega
      generalize st8.length % 3 + i * 3 = k at hkl
      have hkr : k < rs.length := by rw [R11.len]; omega
      obtain ⟨dk, ck, pk, wk, rk⟩ := (R11.mono S12).item k rs[k] (List.getElem?_eq_getElem hkr)
      obtain ⟨dk', ck', pk', wk', dle, cc⟩ := walk_split k W8
      rw [wk] at wk'
      cases wk'
      have dle' : dk ≤ ws.length := dle
      obtain ⟨c', ec'⟩ := cc
      have ec : cp = ck ++ c' := ec'
      have hck : ck.length ≤ 40 := by rw [ec, List.length_append] at hcp; omega
      obtain ⟨mp, cpk⟩ := part_made wk dle' hck ps
      have atk : atI (rs.map V.ref) ((k : Nat) : Int) = some (.ref rs[k]) := atI_nat (by rw [List.getElem?_map, List.getElem?_eq_getElem hkr]; rfl)
      have lw12 := S12 _ _ lw11
      have lr12 := S12 _ _ lr11
      have tc12 := S12 _ _ tc11
      have e12 := S12 _ _ e11
      have g12 := S12 _ _ g11
      have n12 := S12 _ _ n11
      have A12 := A11.mono S12
      generalize rs[k] = rk' at rk atk
      refine ⟨_, rfl, lw, _, _, _, rfl, rfl, SqL.of lw12, rfl, _, rfl, lr, _, _, _, rfl, rfl, SqL.of lr12, atk, ?_⟩
      refine ⟨rk', _, rfl, SqT.of rk, rfl, _, _, rfl, _, _, rfl, _, _, rfl, rfl, ?_⟩
      have cutE : ∀ H', SqT K H' e (ws.map V.str) → cutV (ws.map V.str) none (some ((dk : Nat) : Int)) = (ws.take dk).map V.str := fun _ _ => cutV_take V.str ws dk
      refine ⟨_, rfl, _, rfl, _, rfl, cut_tup (SqT.of e12) fun pe He Se hpe => ?_⟩
      rw [cutV_take V.str ws dk] at hpe
      refine ⟨_, rfl, _, rfl, _, rfl, cut_tup (sameT Se (SqT.of n12)) fun pq Hq Sq hpq => ?_⟩
      rw [cutV_take V.ref ts8 k] at hpq
      have SS := Se.trans Sq
      refine ⟨pe, pq, ws.take dk, ts8.take k, st8.take k, rfl, sameT Sq hpe, hpq, stepsTake (A12.mono SS) k, by rw [List.length_take]; omega, ?_⟩
      rw [mp]
      intro a13 ha13
      have S13 := SS.trans (same_upd (o := .tup (ck.map V.str)) ha13)
      have a13' : upd Hq a13 (.tup (ck.map V.str)) a13 = some (.tup (ck.map V.str)) := upd_same
      generalize hH13 : upd Hq a13 (.tup (ck.map V.str)) = H13 at S13 a13'
      have hwc : (ck.map V.str).all flatV = true := by rw [List.all_map, List.all_eq_true]; exact fun _ _ => rfl
      refine ⟨fun σ' H' => σ' = [some (.ref a), some (.ref rP), some (.ref e), some (.ref r), some (.ref q8), some (.ref lw), some (.str (textS st8)), some (.ref r10), some (.int ((k : Nat) : Int)), some (.int ((dk : Nat) : Int)), some (.int ((ck.length : Nat) : Int)), some (.int (cost ws ps pk (st8.take k))), some (.ref a13), v13] ∧ Same H13 H', ?_, ?_⟩
      · refine ⟨_, rfl, _, _, _, _, rfl, .tup a13', kit_same _, _, rfl, iteF ?_⟩
        refine ⟨_, rfl, _, rfl, lw, _, _, _, rfl, rfl, SqL.of (S13 _ _ lw12), rfl, _, rfl, _, rfl, cut_tup (SqT.of (S13 _ _ tc12)) fun pc Hc Sc hpc => ?_⟩
        rw [cutV_take V.str cp ck.length] at hpc
        have et : cp.take ck.length = ck := by rw [ec, List.take_left]
        rw [et] at hpc
        exact ⟨0, true, by decide, EqS.same (.inr ⟨sameT Sc (SqT.of a13'), hpc⟩) hwc, _, rfl, iteF ⟨rfl, Sc⟩⟩
      · rintro σ' H14 ⟨rfl, S14⟩
        have T14 := S13.trans S14
        refine ⟨_, rfl, _, rfl, _, rfl, cut_tup (SqT.of (T14 _ _ e12)) fun pe2 He2 Se2 hpe2 => ?_⟩
        rw [cutV_take V.str ws dk] at hpe2
        refine ⟨_, rfl, _, rfl, _, rfl, cut_tup (sameT Se2 (SqT.of (T14 _ _ n12))) fun pq2 Hq2 Sq2 hpq2 => ?_⟩
        rw [cutV_take V.ref ts8 k] at hpq2
        have S22 := Se2.trans Sq2
        have T22 := T14.trans S22
        refine ⟨_, rfl, pe2, pq2, rP, ws.take dk, ts8.take k, st8.take k, ps, rfl, sameT Sq2 hpe2, fun z hz => hg z (List.mem_of_mem_take hz), hpq2, stepsTake (A12.mono T22) k, by rw [List.length_take]; omega, SqT.of (T22 _ _ g12), hpl, ?_⟩
        rw [mp]
        refine ⟨_, rfl, _, rfl, _, rfl, iteF ?_⟩
        refine ⟨_, rfl, _, rfl, rfl, _, rfl, iteNS (by rw [cpk]) ?_⟩
        exact ⟨_, _, _, _, _, _, rfl, S12.trans T22⟩
    · rintro σ H12 ⟨v8, v9, v10, v11, v12, v13, rfl, S12⟩
      exact q _
end
theorem all_mk {l : PySem.W.OpenLaw} {w : World} {K : PySem.W.Frag} {h : Heap} {mg : Str → Option Value} {fa fHas fIsW fLooks fWr fNum fSkF fFits fWd fWw fAfter fWalk fCopy fPrice fCost fKW fSW fWrt fCnt fPair fItem fRd fCell fWord fOther fRow fWhole fLAfter fStep fSteps fLAlk fLPrice fLWalk fLaw CNoSlips : Addr} (X : K.In h) (G : h.Ns mainGlobals mg) (hfa : mg "law" = some (.ref fa))
    {odHas anHas odIsW anIsW odLooks anLooks odWr anWr odNum anNum odSkF anSkF odFits anFits odWd anWd odWw anWw odAfter anAfter odWalk anWalk odCopy anCopy odPrice anPrice odCost anCost odKW anKW odSW anSW odWrt anWrt odCnt anCnt odPair anPair odItem anItem odRd anRd odCell anCell odWord anWord odOther anOther odRow anRow odWhole anWhole odLAfter anLAfter odStep anStep odSteps anSteps odLAlk anLAlk odLPrice anLPrice odLWalk anLWalk odLaw anLaw : Option Addr} {slHas slIsW slLooks slWr slNum slSkF slFits slWd slWw slAfter slWalk slCopy slPrice slCost slKW slSW slWrt slCnt slPair slItem slRd slCell slWord slOther slRow slWhole slLAfter slStep slSteps slLAlk slLPrice slLWalk slLaw : Array (Option Value)} {ocHas kVHas dcHas pmHas cdHas ctHas ocIsW kVIsW dcIsW pmIsW cdIsW ctIsW ocLooks kVLooks dcLooks pmLooks cdLooks ctLooks ocWr kVWr dcWr pmWr cdWr ctWr ocNum kVNum dcNum pmNum cdNum ctNum ocSkF kVSkF dcSkF pmSkF cdSkF ctSkF ocFits kVFits dcFits pmFits cdFits ctFits ocWd kVWd dcWd pmWd cdWd ctWd ocWw kVWw dcWw pmWw cdWw ctWw ocAfter kVAfter dcAfter pmAfter cdAfter ctAfter ocWalk kVWalk dcWalk pmWalk cdWalk ctWalk ocCopy kVCopy dcCopy pmCopy cdCopy ctCopy ocPrice kVPrice dcPrice pmPrice cdPrice ctPrice ocCost kVCost dcCost pmCost cdCost ctCost ocKW kVKW dcKW pmKW cdKW ctKW ocSW kVSW dcSW pmSW cdSW ctSW ocWrt kVWrt dcWrt pmWrt cdWrt ctWrt ocCnt kVCnt dcCnt pmCnt cdCnt ctCnt ocPair kVPair dcPair pmPair cdPair ctPair ocItem kVItem dcItem pmItem cdItem ctItem ocRd kVRd dcRd pmRd cdRd ctRd ocCell kVCell dcCell pmCell cdCell ctCell ocWord kVWord dcWord pmWord cdWord ctWord ocOther kVOther dcOther pmOther cdOther ctOther ocRow kVRow dcRow pmRow cdRow ctRow ocWhole kVWhole dcWhole pmWhole cdWhole ctWhole ocLAfter kVLAfter dcLAfter pmLAfter cdLAfter ctLAfter ocStep kVStep dcStep pmStep cdStep ctStep ocSteps kVSteps dcSteps pmSteps cdSteps ctSteps ocLAlk kVLAlk dcLAlk pmLAlk cdLAlk ctLAlk ocLPrice kVLPrice dcLPrice pmLPrice cdLPrice ctLPrice ocLWalk kVLWalk dcLWalk pmLWalk cdLWalk ctLWalk ocLaw kVLaw dcLaw pmLaw cdLaw ctLaw : Value} {tkLETTERS tkFIGURES tkMOST_LETTERS tkMOST_STEPS tkMOST_WORDS tkLIKE : Tok}
    {aB aW aD : Addr} {nB nW nD : Nat} {esD : Array DictEntry} {p1 p2 p3 p4 p5 q1 q2 q3 q4 q5 q6 : Tok}
    (aHas : PySem.W.nsIn K mainGlobals "has_only" = some (some (.ref fHas))) (lHas : K.lookup fHas = some ⟨ocHas, odHas, .func (PySem.W.fnOf "has_only" "has_only" (defArgs sHas) (defBody sHas) (defScope sHas) .none kVHas dcHas pmHas anHas cdHas ctHas), slHas⟩) (cHas : PySem.W.codeIn K cdHas "has_only" = true) (kHas : PySem.W.keepIn K (.ref fHas) = true)
    (aIsW : PySem.W.nsIn K mainGlobals "is_word" = some (some (.ref fIsW))) (lIsW : K.lookup fIsW = some ⟨ocIsW, odIsW, .func (PySem.W.fnOf "is_word" "is_word" (defArgs sIsW) (defBody sIsW) (defScope sIsW) .none kVIsW dcIsW pmIsW anIsW cdIsW ctIsW), slIsW⟩) (cIsW : PySem.W.codeIn K cdIsW "is_word" = true) (kIsW : PySem.W.keepIn K (.ref fIsW) = true)
    (aLooks : PySem.W.nsIn K mainGlobals "looks_alike" = some (some (.ref fLooks))) (lLooks : K.lookup fLooks = some ⟨ocLooks, odLooks, .func (PySem.W.fnOf "looks_alike" "looks_alike" (defArgs sLooks) (defBody sLooks) (defScope sLooks) .none kVLooks dcLooks pmLooks anLooks cdLooks ctLooks), slLooks⟩) (cLooks : PySem.W.codeIn K cdLooks "looks_alike" = true) (kLooks : PySem.W.keepIn K (.ref fLooks) = true)
    (aWr : PySem.W.nsIn K mainGlobals "writes_number" = some (some (.ref fWr))) (lWr : K.lookup fWr = some ⟨ocWr, odWr, .func (PySem.W.fnOf "writes_number" "writes_number" (defArgs sWr) (defBody sWr) (defScope sWr) .none kVWr dcWr pmWr anWr cdWr ctWr), slWr⟩) (cWr : PySem.W.codeIn K cdWr "writes_number" = true) (kWr : PySem.W.keepIn K (.ref fWr) = true)
    (aNum : PySem.W.nsIn K mainGlobals "number_of" = some (some (.ref fNum))) (lNum : K.lookup fNum = some ⟨ocNum, odNum, .func (PySem.W.fnOf "number_of" "number_of" (defArgs sNum) (defBody sNum) (defScope sNum) .none kVNum dcNum pmNum anNum cdNum ctNum), slNum⟩) (cNum : PySem.W.codeIn K cdNum "number_of" = true) (kNum : PySem.W.keepIn K (.ref fNum) = true)
    (aSkF : PySem.W.nsIn K mainGlobals "skip_fits" = some (some (.ref fSkF))) (lSkF : K.lookup fSkF = some ⟨ocSkF, odSkF, .func (PySem.W.fnOf "skip_fits" "skip_fits" (defArgs sSkF) (defBody sSkF) (defScope sSkF) .none kVSkF dcSkF pmSkF anSkF cdSkF ctSkF), slSkF⟩) (cSkF : PySem.W.codeIn K cdSkF "skip_fits" = true) (kSkF : PySem.W.keepIn K (.ref fSkF) = true)
    (aFits : PySem.W.nsIn K mainGlobals "step_fits" = some (some (.ref fFits))) (lFits : K.lookup fFits = some ⟨ocFits, odFits, .func (PySem.W.fnOf "step_fits" "step_fits" (defArgs sFits) (defBody sFits) (defScope sFits) .none kVFits dcFits pmFits anFits cdFits ctFits), slFits⟩) (cFits : PySem.W.codeIn K cdFits "step_fits" = true) (kFits : PySem.W.keepIn K (.ref fFits) = true)
    (aWd : PySem.W.nsIn K mainGlobals "words_done" = some (some (.ref fWd))) (lWd : K.lookup fWd = some ⟨ocWd, odWd, .func (PySem.W.fnOf "words_done" "words_done" (defArgs sWd) (defBody sWd) (defScope sWd) .none kVWd dcWd pmWd anWd cdWd ctWd), slWd⟩) (cWd : PySem.W.codeIn K cdWd "words_done" = true) (kWd : PySem.W.keepIn K (.ref fWd) = true)
    (aWw : PySem.W.nsIn K mainGlobals "words_written" = some (some (.ref fWw))) (lWw : K.lookup fWw = some ⟨ocWw, odWw, .func (PySem.W.fnOf "words_written" "words_written" (defArgs sWw) (defBody sWw) (defScope sWw) .none kVWw dcWw pmWw anWw cdWw ctWw), slWw⟩) (cWw : PySem.W.codeIn K cdWw "words_written" = true) (kWw : PySem.W.keepIn K (.ref fWw) = true)
    (aAfter : PySem.W.nsIn K mainGlobals "step_after" = some (some (.ref fAfter))) (lAfter : K.lookup fAfter = some ⟨ocAfter, odAfter, .func (PySem.W.fnOf "step_after" "step_after" (defArgs sAfter) (defBody sAfter) (defScope sAfter) .none kVAfter dcAfter pmAfter anAfter cdAfter ctAfter), slAfter⟩) (cAfter : PySem.W.codeIn K cdAfter "step_after" = true) (kAfter : PySem.W.keepIn K (.ref fAfter) = true)
    (aWalk : PySem.W.nsIn K mainGlobals "steps_walked" = some (some (.ref fWalk))) (lWalk : K.lookup fWalk = some ⟨ocWalk, odWalk, .func (PySem.W.fnOf "steps_walked" "steps_walked" (defArgs sWalk) (defBody sWalk) (defScope sWalk) .none kVWalk dcWalk pmWalk anWalk cdWalk ctWalk), slWalk⟩) (cWalk : PySem.W.codeIn K cdWalk "steps_walked" = true) (kWalk : PySem.W.keepIn K (.ref fWalk) = true)
    (aCopy : PySem.W.nsIn K mainGlobals "copy_made" = some (some (.ref fCopy))) (lCopy : K.lookup fCopy = some ⟨ocCopy, odCopy, .func (PySem.W.fnOf "copy_made" "copy_made" (defArgs sCopy) (defBody sCopy) (defScope sCopy) .none kVCopy dcCopy pmCopy anCopy cdCopy ctCopy), slCopy⟩) (cCopy : PySem.W.codeIn K cdCopy "copy_made" = true) (kCopy : PySem.W.keepIn K (.ref fCopy) = true)
    (aPrice : PySem.W.nsIn K mainGlobals "step_price" = some (some (.ref fPrice))) (lPrice : K.lookup fPrice = some ⟨ocPrice, odPrice, .func (PySem.W.fnOf "step_price" "step_price" (defArgs sPrice) (defBody sPrice) (defScope sPrice) .none kVPrice dcPrice pmPrice anPrice cdPrice ctPrice), slPrice⟩) (cPrice : PySem.W.codeIn K cdPrice "step_price" = true) (kPrice : PySem.W.keepIn K (.ref fPrice) = true)
    (aCost : PySem.W.nsIn K mainGlobals "slips_price" = some (some (.ref fCost))) (lCost : K.lookup fCost = some ⟨ocCost, odCost, .func (PySem.W.fnOf "slips_price" "slips_price" (defArgs sCost) (defBody sCost) (defScope sCost) .none kVCost dcCost pmCost anCost cdCost ctCost), slCost⟩) (cCost : PySem.W.codeIn K cdCost "slips_price" = true) (kCost : PySem.W.keepIn K (.ref fCost) = true)
    (aKW : PySem.W.nsIn K mainGlobals "keeps_written" = some (some (.ref fKW))) (lKW : K.lookup fKW = some ⟨ocKW, odKW, .func (PySem.W.fnOf "keeps_written" "keeps_written" (defArgs sKW) (defBody sKW) (defScope sKW) .none kVKW dcKW pmKW anKW cdKW ctKW), slKW⟩) (cKW : PySem.W.codeIn K cdKW "keeps_written" = true) (kKW : PySem.W.keepIn K (.ref fKW) = true)
    (aSW : PySem.W.nsIn K mainGlobals "step_written" = some (some (.ref fSW))) (lSW : K.lookup fSW = some ⟨ocSW, odSW, .func (PySem.W.fnOf "step_written" "step_written" (defArgs sSW) (defBody sSW) (defScope sSW) .none kVSW dcSW pmSW anSW cdSW ctSW), slSW⟩) (cSW : PySem.W.codeIn K cdSW "step_written" = true) (kSW : PySem.W.keepIn K (.ref fSW) = true)
    (aWrt : PySem.W.nsIn K mainGlobals "slips_written" = some (some (.ref fWrt))) (lWrt : K.lookup fWrt = some ⟨ocWrt, odWrt, .func (PySem.W.fnOf "slips_written" "slips_written" (defArgs sWrt) (defBody sWrt) (defScope sWrt) .none kVWrt dcWrt pmWrt anWrt cdWrt ctWrt), slWrt⟩) (cWrt : PySem.W.codeIn K cdWrt "slips_written" = true) (kWrt : PySem.W.keepIn K (.ref fWrt) = true)
    (aCnt : PySem.W.nsIn K mainGlobals "count_read" = some (some (.ref fCnt))) (lCnt : K.lookup fCnt = some ⟨ocCnt, odCnt, .func (PySem.W.fnOf "count_read" "count_read" (defArgs sCnt) (defBody sCnt) (defScope sCnt) .none kVCnt dcCnt pmCnt anCnt cdCnt ctCnt), slCnt⟩) (cCnt : PySem.W.codeIn K cdCnt "count_read" = true) (kCnt : PySem.W.keepIn K (.ref fCnt) = true)
    (aPair : PySem.W.nsIn K mainGlobals "pair_read" = some (some (.ref fPair))) (lPair : K.lookup fPair = some ⟨ocPair, odPair, .func (PySem.W.fnOf "pair_read" "pair_read" (defArgs sPair) (defBody sPair) (defScope sPair) .none kVPair dcPair pmPair anPair cdPair ctPair), slPair⟩) (cPair : PySem.W.codeIn K cdPair "pair_read" = true) (kPair : PySem.W.keepIn K (.ref fPair) = true)
    (aItem : PySem.W.nsIn K mainGlobals "item_read" = some (some (.ref fItem))) (lItem : K.lookup fItem = some ⟨ocItem, odItem, .func (PySem.W.fnOf "item_read" "item_read" (defArgs sItem) (defBody sItem) (defScope sItem) .none kVItem dcItem pmItem anItem cdItem ctItem), slItem⟩) (cItem : PySem.W.codeIn K cdItem "item_read" = true) (kItem : PySem.W.keepIn K (.ref fItem) = true)
    (aRd : PySem.W.nsIn K mainGlobals "slips_read" = some (some (.ref fRd))) (lRd : K.lookup fRd = some ⟨ocRd, odRd, .func (PySem.W.fnOf "slips_read" "slips_read" (defArgs sRd) (defBody sRd) (defScope sRd) .none kVRd dcRd pmRd anRd cdRd ctRd), slRd⟩) (cRd : PySem.W.codeIn K cdRd "slips_read" = true) (kRd : PySem.W.keepIn K (.ref fRd) = true)
    (aCell : PySem.W.nsIn K mainGlobals "_law_cell" = some (some (.ref fCell))) (lCell : K.lookup fCell = some ⟨ocCell, odCell, .func (PySem.W.fnOf "_law_cell" "_law_cell" (defArgs sCell) (defBody sCell) (defScope sCell) .none kVCell dcCell pmCell anCell cdCell ctCell), slCell⟩) (cCell : PySem.W.codeIn K cdCell "_law_cell" = true) (kCell : PySem.W.keepIn K (.ref fCell) = true)
    (aWord : PySem.W.nsIn K mainGlobals "_law_word" = some (some (.ref fWord))) (lWord : K.lookup fWord = some ⟨ocWord, odWord, .func (PySem.W.fnOf "_law_word" "_law_word" (defArgs sWord) (defBody sWord) (defScope sWord) .none kVWord dcWord pmWord anWord cdWord ctWord), slWord⟩) (cWord : PySem.W.codeIn K cdWord "_law_word" = true) (kWord : PySem.W.keepIn K (.ref fWord) = true)
    (aOther : PySem.W.nsIn K mainGlobals "_law_other" = some (some (.ref fOther))) (lOther : K.lookup fOther = some ⟨ocOther, odOther, .func (PySem.W.fnOf "_law_other" "_law_other" (defArgs sOther) (defBody sOther) (defScope sOther) .none kVOther dcOther pmOther anOther cdOther ctOther), slOther⟩) (cOther : PySem.W.codeIn K cdOther "_law_other" = true) (kOther : PySem.W.keepIn K (.ref fOther) = true)
    (aRow : PySem.W.nsIn K mainGlobals "_law_row" = some (some (.ref fRow))) (lRow : K.lookup fRow = some ⟨ocRow, odRow, .func (PySem.W.fnOf "_law_row" "_law_row" (defArgs sRow) (defBody sRow) (defScope sRow) .none kVRow dcRow pmRow anRow cdRow ctRow), slRow⟩) (cRow : PySem.W.codeIn K cdRow "_law_row" = true) (kRow : PySem.W.keepIn K (.ref fRow) = true)
    (aWhole : PySem.W.nsIn K mainGlobals "_law_whole" = some (some (.ref fWhole))) (lWhole : K.lookup fWhole = some ⟨ocWhole, odWhole, .func (PySem.W.fnOf "_law_whole" "_law_whole" (defArgs sWhole) (defBody sWhole) (defScope sWhole) .none kVWhole dcWhole pmWhole anWhole cdWhole ctWhole), slWhole⟩) (cWhole : PySem.W.codeIn K cdWhole "_law_whole" = true) (kWhole : PySem.W.keepIn K (.ref fWhole) = true)
    (aLAfter : PySem.W.nsIn K mainGlobals "_law_after" = some (some (.ref fLAfter))) (lLAfter : K.lookup fLAfter = some ⟨ocLAfter, odLAfter, .func (PySem.W.fnOf "_law_after" "_law_after" (defArgs sLAfter) (defBody sLAfter) (defScope sLAfter) .none kVLAfter dcLAfter pmLAfter anLAfter cdLAfter ctLAfter), slLAfter⟩) (cLAfter : PySem.W.codeIn K cdLAfter "_law_after" = true) (kLAfter : PySem.W.keepIn K (.ref fLAfter) = true)
    (aStep : PySem.W.nsIn K mainGlobals "_law_step" = some (some (.ref fStep))) (lStep : K.lookup fStep = some ⟨ocStep, odStep, .func (PySem.W.fnOf "_law_step" "_law_step" (defArgs sStep) (defBody sStep) (defScope sStep) .none kVStep dcStep pmStep anStep cdStep ctStep), slStep⟩) (cStep : PySem.W.codeIn K cdStep "_law_step" = true) (kStep : PySem.W.keepIn K (.ref fStep) = true)
    (aSteps : PySem.W.nsIn K mainGlobals "_law_steps" = some (some (.ref fSteps))) (lSteps : K.lookup fSteps = some ⟨ocSteps, odSteps, .func (PySem.W.fnOf "_law_steps" "_law_steps" (defArgs sSteps) (defBody sSteps) (defScope sSteps) .none kVSteps dcSteps pmSteps anSteps cdSteps ctSteps), slSteps⟩) (cSteps : PySem.W.codeIn K cdSteps "_law_steps" = true) (kSteps : PySem.W.keepIn K (.ref fSteps) = true)
    (aLAlk : PySem.W.nsIn K mainGlobals "_law_alike" = some (some (.ref fLAlk))) (lLAlk : K.lookup fLAlk = some ⟨ocLAlk, odLAlk, .func (PySem.W.fnOf "_law_alike" "_law_alike" (defArgs sLAlk) (defBody sLAlk) (defScope sLAlk) .none kVLAlk dcLAlk pmLAlk anLAlk cdLAlk ctLAlk), slLAlk⟩) (cLAlk : PySem.W.codeIn K cdLAlk "_law_alike" = true) (kLAlk : PySem.W.keepIn K (.ref fLAlk) = true)
    (aLPrice : PySem.W.nsIn K mainGlobals "_law_price" = some (some (.ref fLPrice))) (lLPrice : K.lookup fLPrice = some ⟨ocLPrice, odLPrice, .func (PySem.W.fnOf "_law_price" "_law_price" (defArgs sLPrice) (defBody sLPrice) (defScope sLPrice) .none kVLPrice dcLPrice pmLPrice anLPrice cdLPrice ctLPrice), slLPrice⟩) (cLPrice : PySem.W.codeIn K cdLPrice "_law_price" = true) (kLPrice : PySem.W.keepIn K (.ref fLPrice) = true)
    (aLWalk : PySem.W.nsIn K mainGlobals "_law_walk" = some (some (.ref fLWalk))) (lLWalk : K.lookup fLWalk = some ⟨ocLWalk, odLWalk, .func (PySem.W.fnOf "_law_walk" "_law_walk" (defArgs sLWalk) (defBody sLWalk) (defScope sLWalk) .none kVLWalk dcLWalk pmLWalk anLWalk cdLWalk ctLWalk), slLWalk⟩) (cLWalk : PySem.W.codeIn K cdLWalk "_law_walk" = true) (kLWalk : PySem.W.keepIn K (.ref fLWalk) = true)
    (aLaw : PySem.W.nsIn K mainGlobals "law" = some (some (.ref fLaw))) (lLaw : K.lookup fLaw = some ⟨ocLaw, odLaw, .func (PySem.W.fnOf "law" "law" (defArgs sLaw) (defBody sLaw) (defScope sLaw) .none kVLaw dcLaw pmLaw anLaw cdLaw ctLaw), slLaw⟩) (cLaw : PySem.W.codeIn K cdLaw "law" = true) (kLaw : PySem.W.keepIn K (.ref fLaw) = true)
    (gLETTERS : PySem.W.nsIn K mainGlobals "LETTERS" = some (some (.str (Str.ofString "abcdefghijklmnopqrstuvwxyz") tkLETTERS)))
    (gFIGURES : PySem.W.nsIn K mainGlobals "FIGURES" = some (some (.str (Str.ofString "0123456789") tkFIGURES)))
    (gMOST_LETTERS : PySem.W.nsIn K mainGlobals "MOST_LETTERS" = some (some (.int 12 tkMOST_LETTERS)))
    (gMOST_STEPS : PySem.W.nsIn K mainGlobals "MOST_STEPS" = some (some (.int 80 tkMOST_STEPS)))
    (gBARE_KINDS : PySem.W.nsIn K mainGlobals "BARE_KINDS" = some (some (.ref aB)))
    (gWORD_KINDS : PySem.W.nsIn K mainGlobals "WORD_KINDS" = some (some (.ref aW)))
    (gMOST_WORDS : PySem.W.nsIn K mainGlobals "MOST_WORDS" = some (some (.int 40 tkMOST_WORDS)))
    (gLIKE : PySem.W.nsIn K mainGlobals "LIKE" = some (some (.int 0 tkLIKE)))
    (gPRICE_PLACES : PySem.W.nsIn K mainGlobals "PRICE_PLACES" = some (some (.ref aD)))
    (gNoSlips : PySem.W.nsIn K mainGlobals "NoSlips" = some (some (.ref CNoSlips)))
    (ball : PySem.W.nsIn K mainGlobals "all" = some none)
    (blen : PySem.W.nsIn K mainGlobals "len" = some none)
    (brange : PySem.W.nsIn K mainGlobals "range" = some none)
    (bisinstance : PySem.W.nsIn K mainGlobals "isinstance" = some none)
    (btuple : PySem.W.nsIn K mainGlobals "tuple" = some none)
    (bstr : PySem.W.nsIn K mainGlobals "str" = some none)
    (bint : PySem.W.nsIn K mainGlobals "int" = some none)
    (bbool : PySem.W.nsIn K mainGlobals "bool" = some none)
    (bsum : PySem.W.nsIn K mainGlobals "sum" = some none)
    (bzip : PySem.W.nsIn K mainGlobals "zip" = some none)
    (vNoSlips : PySem.W.excIn K CNoSlips [Value.type "ValueError", Value.type "Exception", Value.type "BaseException", Value.type "object"] "ValueError.__new__" = true)
    (tB : K.lookup aB = some ⟨.type "tuple", none, .seq #[.str (Str.ofString "lose") p1, .str (Str.ofString "twice") p2, .str (Str.ofString "swap") p3] nB, #[]⟩)
    (tW : K.lookup aW = some ⟨.type "tuple", none, .seq #[.str (Str.ofString "turn") p4, .str (Str.ofString "add") p5] nW, #[]⟩)
    (i6 : PySem.W.kitOne K (.type "int") (.type "bool") = some false)
    (dl : K.lookup aD = some ⟨.type "dict", none, .dict esD nD, #[]⟩)
    (dk : PySem.W.KeysLit w.params esD.toList)
    (d1 : PySem.W.nsIn K aD "turn" = some (some (.int 1 q1)))
    (d2 : PySem.W.nsIn K aD "lose" = some (some (.int 2 q2)))
    (d3 : PySem.W.nsIn K aD "add" = some (some (.int 3 q3)))
    (d4 : PySem.W.nsIn K aD "twice" = some (some (.int 4 q4)))
    (d5 : PySem.W.nsIn K aD "swap" = some (some (.int 5 q5)))
    (d6 : PySem.W.nsIn K aD "skip" = some (some (.int 6 q6)))
    : ∃ fd : FuncData, (∀ (s : Shared) (v : Value), BindsTo s fd ⟨[v], []⟩ [("script", v)]) ∧ ∀ base : Heap, K.In base → base.Ns mainGlobals mg → FnOk l.prog w K mg base CX0 8 fa fd ["script"] (spLaw K) := by
  have e := hfa.symm.trans (PySem.W.mg_of X G aLaw)
  cases e
  have FHas := fun_mk (st := sHas) lHas cHas kHas
  have b_Has := FHas.binds (ps := ["text", "signs"]) fun _ _ _ _ _ _ us hl => match us, hl with | [_, _], _ => rfl
  have DHas : Dfn K mg "has_only" sHas fHas _ ["text", "signs"] := ⟨FHas, PySem.W.mg_of X G aHas, b_Has⟩
  have FIsW := fun_mk (st := sIsW) lIsW cIsW kIsW
  have b_IsW := FIsW.binds (ps := ["text"]) fun _ _ _ _ _ _ us hl => match us, hl with | [_], _ => rfl
  have DIsW : Dfn K mg "is_word" sIsW fIsW _ ["text"] := ⟨FIsW, PySem.W.mg_of X G aIsW, b_IsW⟩
  have FLooks := fun_mk (st := sLooks) lLooks cLooks kLooks
  have b_Looks := FLooks.binds (ps := ["one", "two"]) fun _ _ _ _ _ _ us hl => match us, hl with | [_, _], _ => rfl
  have DLooks : Dfn K mg "looks_alike" sLooks fLooks _ ["one", "two"] := ⟨FLooks, PySem.W.mg_of X G aLooks, b_Looks⟩
  have FWr := fun_mk (st := sWr) lWr cWr kWr
  have b_Wr := FWr.binds (ps := ["text"]) fun _ _ _ _ _ _ us hl => match us, hl with | [_], _ => rfl
  have DWr : Dfn K mg "writes_number" sWr fWr _ ["text"] := ⟨FWr, PySem.W.mg_of X G aWr, b_Wr⟩
  have FNum := fun_mk (st := sNum) lNum cNum kNum
  have b_Num := FNum.binds (ps := ["text", "most"]) fun _ _ _ _ _ _ us hl => match us, hl with | [_, _], _ => rfl
  have DNum : Dfn K mg "number_of" sNum fNum _ ["text", "most"] := ⟨FNum, PySem.W.mg_of X G aNum, b_Num⟩
  have FSkF := fun_mk (st := sSkF) lSkF cSkF kSkF
  have b_SkF := FSkF.binds (ps := ["elder", "done", "many"]) fun _ _ _ _ _ _ us hl => match us, hl with | [_, _, _], _ => rfl
  have DSkF : Dfn K mg "skip_fits" sSkF fSkF _ ["elder", "done", "many"] := ⟨FSkF, PySem.W.mg_of X G aSkF, b_SkF⟩
  have FFits := fun_mk (st := sFits) lFits cFits kFits
  have b_Fits := FFits.binds (ps := ["elder", "done", "last", "step"]) fun _ _ _ _ _ _ us hl => match us, hl with | [_, _, _, _], _ => rfl
  have DFits : Dfn K mg "step_fits" sFits fFits _ ["elder", "done", "last", "step"] := ⟨FFits, PySem.W.mg_of X G aFits, b_Fits⟩
  have FWd := fun_mk (st := sWd) lWd cWd kWd
  have b_Wd := FWd.binds (ps := ["step"]) fun _ _ _ _ _ _ us hl => match us, hl with | [_], _ => rfl
  have DWd : Dfn K mg "words_done" sWd fWd _ ["step"] := ⟨FWd, PySem.W.mg_of X G aWd, b_Wd⟩
  have FWw := fun_mk (st := sWw) lWw cWw kWw
  have b_Ww := FWw.binds (ps := ["elder", "done", "last", "step"]) fun _ _ _ _ _ _ us hl => match us, hl with | [_, _, _, _], _ => rfl
  have DWw : Dfn K mg "words_written" sWw fWw _ ["elder", "done", "last", "step"] := ⟨FWw, PySem.W.mg_of X G aWw, b_Ww⟩
  have FAfter := fun_mk (st := sAfter) lAfter cAfter kAfter
  have b_After := FAfter.binds (ps := ["elder", "done", "last", "step"]) fun _ _ _ _ _ _ us hl => match us, hl with | [_, _, _, _], _ => rfl
  have DAfter : Dfn K mg "step_after" sAfter fAfter _ ["elder", "done", "last", "step"] := ⟨FAfter, PySem.W.mg_of X G aAfter, b_After⟩
  have FWalk := fun_mk (st := sWalk) lWalk cWalk kWalk
  have b_Walk := FWalk.binds (ps := ["elder", "steps"]) fun _ _ _ _ _ _ us hl => match us, hl with | [_, _], _ => rfl
  have DWalk : Dfn K mg "steps_walked" sWalk fWalk _ ["elder", "steps"] := ⟨FWalk, PySem.W.mg_of X G aWalk, b_Walk⟩
  have FCopy := fun_mk (st := sCopy) lCopy cCopy kCopy
  have b_Copy := FCopy.binds (ps := ["elder", "steps"]) fun _ _ _ _ _ _ us hl => match us, hl with | [_, _], _ => rfl
  have DCopy : Dfn K mg "copy_made" sCopy fCopy _ ["elder", "steps"] := ⟨FCopy, PySem.W.mg_of X G aCopy, b_Copy⟩
  have FPrice := fun_mk (st := sPrice) lPrice cPrice kPrice
  have b_Price := FPrice.binds (ps := ["elder", "done", "step", "prices"]) fun _ _ _ _ _ _ us hl => match us, hl with | [_, _, _, _], _ => rfl
  have DPrice : Dfn K mg "step_price" sPrice fPrice _ ["elder", "done", "step", "prices"] := ⟨FPrice, PySem.W.mg_of X G aPrice, b_Price⟩
  have FCost := fun_mk (st := sCost) lCost cCost kCost
  have b_Cost := FCost.binds (ps := ["elder", "steps", "prices"]) fun _ _ _ _ _ _ us hl => match us, hl with | [_, _, _], _ => rfl
  have DCost : Dfn K mg "slips_price" sCost fCost _ ["elder", "steps", "prices"] := ⟨FCost, PySem.W.mg_of X G aCost, b_Cost⟩
  have FKW := fun_mk (st := sKW) lKW cKW kKW
  have b_KW := FKW.binds (ps := ["many"]) fun _ _ _ _ _ _ us hl => match us, hl with | [_], _ => rfl
  have DKW : Dfn K mg "keeps_written" sKW fKW _ ["many"] := ⟨FKW, PySem.W.mg_of X G aKW, b_KW⟩
  have FSW := fun_mk (st := sSW) lSW cSW kSW
  have b_SW := FSW.binds (ps := ["step"]) fun _ _ _ _ _ _ us hl => match us, hl with | [_], _ => rfl
  have DSW : Dfn K mg "step_written" sSW fSW _ ["step"] := ⟨FSW, PySem.W.mg_of X G aSW, b_SW⟩
  have FWrt := fun_mk (st := sWrt) lWrt cWrt kWrt
  have b_Wrt := FWrt.binds (ps := ["steps"]) fun _ _ _ _ _ _ us hl => match us, hl with | [_], _ => rfl
  have DWrt : Dfn K mg "slips_written" sWrt fWrt _ ["steps"] := ⟨FWrt, PySem.W.mg_of X G aWrt, b_Wrt⟩
  have FCnt := fun_mk (st := sCnt) lCnt cCnt kCnt
  have b_Cnt := FCnt.binds (ps := ["text"]) fun _ _ _ _ _ _ us hl => match us, hl with | [_], _ => rfl
  have DCnt : Dfn K mg "count_read" sCnt fCnt _ ["text"] := ⟨FCnt, PySem.W.mg_of X G aCnt, b_Cnt⟩
  have FPair := fun_mk (st := sPair) lPair cPair kPair
  have b_Pair := FPair.binds (ps := ["kind", "said"]) fun _ _ _ _ _ _ us hl => match us, hl with | [_, _], _ => rfl
  have DPair : Dfn K mg "pair_read" sPair fPair _ ["kind", "said"] := ⟨FPair, PySem.W.mg_of X G aPair, b_Pair⟩
  have FItem := fun_mk (st := sItem) lItem cItem kItem
  have b_Item := FItem.binds (ps := ["item"]) fun _ _ _ _ _ _ us hl => match us, hl with | [_], _ => rfl
  have DItem : Dfn K mg "item_read" sItem fItem _ ["item"] := ⟨FItem, PySem.W.mg_of X G aItem, b_Item⟩
  have FRd := fun_mk (st := sRd) lRd cRd kRd
  have b_Rd := FRd.binds (ps := ["text"]) fun _ _ _ _ _ _ us hl => match us, hl with | [_], _ => rfl
  have DRd : Dfn K mg "slips_read" sRd fRd _ ["text"] := ⟨FRd, PySem.W.mg_of X G aRd, b_Rd⟩
  have FCell := fun_mk (st := sCell) lCell cCell kCell
  have b_Cell := FCell.binds (ps := ["script", "k"]) fun _ _ _ _ _ _ us hl => match us, hl with | [_, _], _ => rfl
  have DCell : Dfn K mg "_law_cell" sCell fCell _ ["script", "k"] := ⟨FCell, PySem.W.mg_of X G aCell, b_Cell⟩
  have FWord := fun_mk (st := sWord) lWord cWord kWord
  have b_Word := FWord.binds (ps := ["cell"]) fun _ _ _ _ _ _ us hl => match us, hl with | [_], _ => rfl
  have DWord : Dfn K mg "_law_word" sWord fWord _ ["cell"] := ⟨FWord, PySem.W.mg_of X G aWord, b_Word⟩
  have FOther := fun_mk (st := sOther) lOther cOther kOther
  have b_Other := FOther.binds (ps := ["word", "place", "step"]) fun _ _ _ _ _ _ us hl => match us, hl with | [_, _, _], _ => rfl
  have DOther : Dfn K mg "_law_other" sOther fOther _ ["word", "place", "step"] := ⟨FOther, PySem.W.mg_of X G aOther, b_Other⟩
  have FRow := fun_mk (st := sRow) lRow cRow kRow
  have b_Row := FRow.binds (ps := ["cells"]) fun _ _ _ _ _ _ us hl => match us, hl with | [_], _ => rfl
  have DRow : Dfn K mg "_law_row" sRow fRow _ ["cells"] := ⟨FRow, PySem.W.mg_of X G aRow, b_Row⟩
  have FWhole := fun_mk (st := sWhole) lWhole cWhole kWhole
  have b_Whole := FWhole.binds (ps := ["found"]) fun _ _ _ _ _ _ us hl => match us, hl with | [_], _ => rfl
  have DWhole : Dfn K mg "_law_whole" sWhole fWhole _ ["found"] := ⟨FWhole, PySem.W.mg_of X G aWhole, b_Whole⟩
  have FLAfter := fun_mk (st := sLAfter) lLAfter cLAfter kLAfter
  have b_LAfter := FLAfter.binds (ps := ["elder", "done", "last", "step"]) fun _ _ _ _ _ _ us hl => match us, hl with | [_, _, _, _], _ => rfl
  have DLAfter : Dfn K mg "_law_after" sLAfter fLAfter _ ["elder", "done", "last", "step"] := ⟨FLAfter, PySem.W.mg_of X G aLAfter, b_LAfter⟩
  have FStep := fun_mk (st := sStep) lStep cStep kStep
  have b_Step := FStep.binds (ps := ["elder", "done", "cell"]) fun _ _ _ _ _ _ us hl => match us, hl with | [_, _, _], _ => rfl
  have DStep : Dfn K mg "_law_step" sStep fStep _ ["elder", "done", "cell"] := ⟨FStep, PySem.W.mg_of X G aStep, b_Step⟩
  have FSteps := fun_mk (st := sSteps) lSteps cSteps kSteps
  have b_Steps := FSteps.binds (ps := ["elder", "cells", "good"]) fun _ _ _ _ _ _ us hl => match us, hl with | [_, _, _], _ => rfl
  have DSteps : Dfn K mg "_law_steps" sSteps fSteps _ ["elder", "cells", "good"] := ⟨FSteps, PySem.W.mg_of X G aSteps, b_Steps⟩
  have FLAlk := fun_mk (st := sLAlk) lLAlk cLAlk kLAlk
  have b_LAlk := FLAlk.binds (ps := ["one", "two"]) fun _ _ _ _ _ _ us hl => match us, hl with | [_, _], _ => rfl
  have DLAlk : Dfn K mg "_law_alike" sLAlk fLAlk _ ["one", "two"] := ⟨FLAlk, PySem.W.mg_of X G aLAlk, b_LAlk⟩
  have FLPrice := fun_mk (st := sLPrice) lLPrice cLPrice kLPrice
  have b_LPrice := FLPrice.binds (ps := ["elder", "done", "step", "prices"]) fun _ _ _ _ _ _ us hl => match us, hl with | [_, _, _, _], _ => rfl
  have DLPrice : Dfn K mg "_law_price" sLPrice fLPrice _ ["elder", "done", "step", "prices"] := ⟨FLPrice, PySem.W.mg_of X G aLPrice, b_LPrice⟩
  have FLWalk := fun_mk (st := sLWalk) lLWalk cLWalk kLWalk
  have b_LWalk := FLWalk.binds (ps := ["elder", "steps", "prices"]) fun _ _ _ _ _ _ us hl => match us, hl with | [_, _, _], _ => rfl
  have DLWalk : Dfn K mg "_law_walk" sLWalk fLWalk _ ["elder", "steps", "prices"] := ⟨FLWalk, PySem.W.mg_of X G aLWalk, b_LWalk⟩
  have FLaw := fun_mk (st := sLaw) lLaw cLaw kLaw
  have mLETTERS := PySem.W.mg_of X G gLETTERS
  have mFIGURES := PySem.W.mg_of X G gFIGURES
  have mMOST_LETTERS := PySem.W.mg_of X G gMOST_LETTERS
  have mMOST_STEPS := PySem.W.mg_of X G gMOST_STEPS
  have mBARE_KINDS := PySem.W.mg_of X G gBARE_KINDS
  have mWORD_KINDS := PySem.W.mg_of X G gWORD_KINDS
  have mMOST_WORDS := PySem.W.mg_of X G gMOST_WORDS
  have mLIKE := PySem.W.mg_of X G gLIKE
  have mPRICE_PLACES := PySem.W.mg_of X G gPRICE_PLACES
  have mNoSlips := PySem.W.mg_of X G gNoSlips
  have mall := PySem.W.mg_none_of X G ball
  have mlen := PySem.W.mg_none_of X G blen
  have mrange := PySem.W.mg_none_of X G brange
  have misinstance := PySem.W.mg_none_of X G bisinstance
  have mtuple := PySem.W.mg_none_of X G btuple
  have mstr := PySem.W.mg_none_of X G bstr
  have mint := PySem.W.mg_none_of X G bint
  have mbool := PySem.W.mg_none_of X G bbool
  have msum := PySem.W.mg_none_of X G bsum
  have mzip := PySem.W.mg_none_of X G bzip
  exact ⟨PySem.W.fnOf "law" "law" (defArgs sLaw) (defBody sLaw) (defScope sLaw) .none kVLaw dcLaw pmLaw anLaw cdLaw ctLaw, fun s v => .of_eq rfl, fun base _ _ => ok_law FLaw DHas DIsW DLooks DWr DNum DSkF DFits DWd DWw DAfter DWalk DCopy DPrice DCost DKW DSW DWrt DCnt DPair DItem DRd DCell DWord DOther DRow DWhole DLAfter DStep DSteps DLAlk DLPrice DLWalk mall mlen mrange misinstance mtuple mstr mint mbool msum mzip mLETTERS mFIGURES mMOST_LETTERS mMOST_STEPS mBARE_KINDS mWORD_KINDS mMOST_WORDS mLIKE mPRICE_PLACES mNoSlips vNoSlips (sqT_mod (ws := [(Str.ofString "lose", p1), (Str.ofString "twice", p2), (Str.ofString "swap", p3)]) tB (by show 3 ≤ 1000; omega)) (sqT_mod (ws := [(Str.ofString "turn", p4), (Str.ofString "add", p5)]) tW (by show 2 ≤ 1000; omega)) i6 ⟨dl, dk, ⟨_, d1⟩, ⟨_, d2⟩, ⟨_, d3⟩, ⟨_, d4⟩, ⟨_, d5⟩, ⟨_, d6⟩⟩⟩
theorem walk {l : PySem.W.OpenLaw} {q : Program} {loose : List Str} {XP : (Str → Option Value) → Heap → Prop} {YP : World → Heap → Prop} {d : DefRec} {K : Params → PySem.W.Frag} (hn : l.most = some 63) (hdf : d.params.defaults = [])
    (hY : ∀ (w : World) (h : Heap), YP w h → (K w.params).In h)
    (F : ∀ (w : World) (mg : Str → Option Value) (fa : Addr) (h : Heap), (K w.params).In h → h.Ns mainGlobals mg → mg d.name = some (.ref fa) →
      ∃ fd : FuncData, (∀ (s : Shared) (u : Value), BindsTo s fd ⟨[u], []⟩ [("script", u)]) ∧ ∀ base : Heap, (K w.params).In base → base.Ns mainGlobals mg → FnOk l.prog w (K w.params) mg base CX0 8 fa fd ["script"] (spLaw (K w.params))) :
    PySem.W.WalkO q loose XP YP l.row.toRowW d [] (fun f vs => PySem.call f vs) :=
  L2.walk_of (n := 63) (k := 8) (x := "script") (CX := fun _ => CX0) (sp := fun w => spLaw (K w.params)) hn (by decide) hdf ⟨rfl, by decide, by decide⟩ hY F (fun _ _ a ns hl _ hS => ⟨a, ns, rfl, hS, hl, fun _ => rfl⟩) fun _ _ _ _ _ z => z
end K10
open PySem PySem.W PyProof.Rows
set_option maxRecDepth 100000 in
set_option maxHeartbeats 0 in
theorem PySem.Challenge.cw_vellum_k10_whole_slips_lead_to_the_copy_holds : PySem.Challenge.rw_vellum_k10_whole_slips_lead_to_the_copy.Holds := by
  w_on; o_law; k_head; (case hw => w_witness2)
  k_fill
  refine K10.walk (l := PySem.Challenge.rw_vellum_k10_whole_slips_lead_to_the_copy) rfl rfl (fun w h Y => PySem.W.kIn_of Y) ?F
  case F =>
    intro w mg fa h KX G hmg
    refine' K10.all_mk KX G hmg ?aHas ?lHas ?cHas ?kHas ?aIsW ?lIsW ?cIsW ?kIsW ?aLooks ?lLooks ?cLooks ?kLooks ?aWr ?lWr ?cWr ?kWr ?aNum ?lNum ?cNum ?kNum ?aSkF ?lSkF ?cSkF ?kSkF ?aFits ?lFits ?cFits ?kFits ?aWd ?lWd ?cWd ?kWd ?aWw ?lWw ?cWw ?kWw ?aAfter ?lAfter ?cAfter ?kAfter ?aWalk ?lWalk ?cWalk ?kWalk ?aCopy ?lCopy ?cCopy ?kCopy ?aPrice ?lPrice ?cPrice ?kPrice ?aCost ?lCost ?cCost ?kCost ?aKW ?lKW ?cKW ?kKW ?aSW ?lSW ?cSW ?kSW ?aWrt ?lWrt ?cWrt ?kWrt ?aCnt ?lCnt ?cCnt ?kCnt ?aPair ?lPair ?cPair ?kPair ?aItem ?lItem ?cItem ?kItem ?aRd ?lRd ?cRd ?kRd ?aCell ?lCell ?cCell ?kCell ?aWord ?lWord ?cWord ?kWord ?aOther ?lOther ?cOther ?kOther ?aRow ?lRow ?cRow ?kRow ?aWhole ?lWhole ?cWhole ?kWhole ?aLAfter ?lLAfter ?cLAfter ?kLAfter ?aStep ?lStep ?cStep ?kStep ?aSteps ?lSteps ?cSteps ?kSteps ?aLAlk ?lLAlk ?cLAlk ?kLAlk ?aLPrice ?lLPrice ?cLPrice ?kLPrice ?aLWalk ?lLWalk ?cLWalk ?kLWalk ?aLaw ?lLaw ?cLaw ?kLaw ?gLETTERS ?gFIGURES ?gMOST_LETTERS ?gMOST_STEPS ?gBARE_KINDS ?gWORD_KINDS ?gMOST_WORDS ?gLIKE ?gPRICE_PLACES ?gNoSlips ?ball ?blen ?brange ?bisinstance ?btuple ?bstr ?bint ?bbool ?bsum ?bzip ?vNoSlips ?tB ?tW ?i6 ?dl ?dk ?d1 ?d2 ?d3 ?d4 ?d5 ?d6
    (case aHas => k_is)
    (case lHas => k_is)
    (case cHas => k_is)
    (case kHas => k_is)
    (case aIsW => k_is)
    (case lIsW => k_is)
    (case cIsW => k_is)
    (case kIsW => k_is)
    (case aLooks => k_is)
    (case lLooks => k_is)
    (case cLooks => k_is)
    (case kLooks => k_is)
    (case aWr => k_is)
    (case lWr => k_is)
    (case cWr => k_is)
    (case kWr => k_is)
    (case aNum => k_is)
    (case lNum => k_is)
    (case cNum => k_is)
    (case kNum => k_is)
    (case aSkF => k_is)
    (case lSkF => k_is)
    (case cSkF => k_is)
    (case kSkF => k_is)
    (case aFits => k_is)
    (case lFits => k_is)
    (case cFits => k_is)
    (case kFits => k_is)
    (case aWd => k_is)
    (case lWd => k_is)
    (case cWd => k_is)
    (case kWd => k_is)
    (case aWw => k_is)
    (case lWw => k_is)
    (case cWw => k_is)
    (case kWw => k_is)
    (case aAfter => k_is)
    (case lAfter => k_is)
    (case cAfter => k_is)
    (case kAfter => k_is)
    (case aWalk => k_is)
    (case lWalk => k_is)
    (case cWalk => k_is)
    (case kWalk => k_is)
    (case aCopy => k_is)
    (case lCopy => k_is)
    (case cCopy => k_is)
    (case kCopy => k_is)
    (case aPrice => k_is)
    (case lPrice => k_is)
    (case cPrice => k_is)
    (case kPrice => k_is)
    (case aCost => k_is)
    (case lCost => k_is)
    (case cCost => k_is)
    (case kCost => k_is)
    (case aKW => k_is)
    (case lKW => k_is)
    (case cKW => k_is)
    (case kKW => k_is)
    (case aSW => k_is)
    (case lSW => k_is)
    (case cSW => k_is)
    (case kSW => k_is)
    (case aWrt => k_is)
    (case lWrt => k_is)
    (case cWrt => k_is)
    (case kWrt => k_is)
    (case aCnt => k_is)
    (case lCnt => k_is)
    (case cCnt => k_is)
    (case kCnt => k_is)
    (case aPair => k_is)
    (case lPair => k_is)
    (case cPair => k_is)
    (case kPair => k_is)
    (case aItem => k_is)
    (case lItem => k_is)
    (case cItem => k_is)
    (case kItem => k_is)
    (case aRd => k_is)
    (case lRd => k_is)
    (case cRd => k_is)
    (case kRd => k_is)
    (case aCell => k_is)
    (case lCell => k_is)
    (case cCell => k_is)
    (case kCell => k_is)
    (case aWord => k_is)
    (case lWord => k_is)
    (case cWord => k_is)
    (case kWord => k_is)
    (case aOther => k_is)
    (case lOther => k_is)
    (case cOther => k_is)
    (case kOther => k_is)
    (case aRow => k_is)
    (case lRow => k_is)
    (case cRow => k_is)
    (case kRow => k_is)
    (case aWhole => k_is)
    (case lWhole => k_is)
    (case cWhole => k_is)
    (case kWhole => k_is)
    (case aLAfter => k_is)
    (case lLAfter => k_is)
    (case cLAfter => k_is)
    (case kLAfter => k_is)
    (case aStep => k_is)
    (case lStep => k_is)
    (case cStep => k_is)
    (case kStep => k_is)
    (case aSteps => k_is)
    (case lSteps => k_is)
    (case cSteps => k_is)
    (case kSteps => k_is)
    (case aLAlk => k_is)
    (case lLAlk => k_is)
    (case cLAlk => k_is)
    (case kLAlk => k_is)
    (case aLPrice => k_is)
    (case lLPrice => k_is)
    (case cLPrice => k_is)
    (case kLPrice => k_is)
    (case aLWalk => k_is)
    (case lLWalk => k_is)
    (case cLWalk => k_is)
    (case kLWalk => k_is)
    (case aLaw => k_is)
    (case lLaw => k_is)
    (case cLaw => k_is)
    (case kLaw => k_is)
    (case gLETTERS => k_is)
    (case gFIGURES => k_is)
    (case gMOST_LETTERS => k_is)
    (case gMOST_STEPS => k_is)
    (case gBARE_KINDS => k_is)
    (case gWORD_KINDS => k_is)
    (case gMOST_WORDS => k_is)
    (case gLIKE => k_is)
    (case gPRICE_PLACES => k_is)
    (case gNoSlips => k_is)
    (case ball => k_is)
    (case blen => k_is)
    (case brange => k_is)
    (case bisinstance => k_is)
    (case btuple => k_is)
    (case bstr => k_is)
    (case bint => k_is)
    (case bbool => k_is)
    (case bsum => k_is)
    (case bzip => k_is)
    (case vNoSlips => k_exc)
    (case tB => k_is)
    (case tW => k_is)
    (case i6 => kit_is)
    (case dl => k_is)
    (case dk => k_keys)
    (case d1 => k_is)
    (case d2 => k_is)
    (case d3 => k_is)
    (case d4 => k_is)
    (case d5 => k_is)
    (case d6 => k_is)
