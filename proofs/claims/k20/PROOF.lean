import PyProof.Rows.All
import Wide.All
import OpenK.AllK
import Wide.FinOn
import Lean
import PyProof.EqAt
import PyProof.EqKinds
import PyProof.TupleCall
import PyProof.ListMulRoad
import PyProof.Rows.ListMul
import PySem.Challenge.RW_vellum_k20_whole_no_drawn_slips_are_chea
set_option Elab.async false
set_option linter.all false
set_option maxRecDepth 100000
namespace L2
open PySem PySem.Spec PyProof.Rows
abbrev Key := Sum Int Str
def keyIs : Key → Value → Bool
  | .inl k, v => Value.isInt k v
  | .inr x, v => Value.isStrOf x v
def keyH (w : World) : Key → Int
  | .inl k => hashInt k
  | .inr x => hashStr w x
theorem keyIs_shape : ∀ {k : Key} {v : Value}, keyIs k v = true → (∃ i t, k = Sum.inl i ∧ v = Value.int i t) ∨ (∃ x t, k = Sum.inr x ∧ v = Value.str x t)
  | .inl i, v, h => by
    obtain ⟨t, e⟩ := Value.isInt_shape (k := i) (v := v) h
    exact .inl ⟨i, t, rfl, e⟩
  | .inr x, v, h => by
    obtain ⟨t, e⟩ := Value.isStrOf_shape (x := x) (v := v) h
    exact .inr ⟨x, t, rfl, e⟩
theorem key_ll (a b : Int) : decide ((Sum.inl a : Key) = Sum.inl b) = (a == b) := by
  by_cases e : a = b
  · subst e; simp
  · have h : ¬ (Sum.inl a : Key) = Sum.inl b := fun q => e (Sum.inl.inj q)
    rw [decide_eq_false h]
    exact (beq_eq_false_iff_ne.mpr e).symm
theorem key_rr (a b : Str) : decide ((Sum.inr a : Key) = Sum.inr b) = decide (a = b) := by
  by_cases e : a = b
  · subst e; simp
  · have h : ¬ (Sum.inr a : Key) = Sum.inr b := fun q => e (Sum.inr.inj q)
    rw [decide_eq_false h, decide_eq_false e]
theorem key_lr (a : Int) (b : Str) : decide ((Sum.inl a : Key) = Sum.inr b) = false := decide_eq_false (fun q => nomatch q)
theorem key_rl (a : Str) (b : Int) : decide ((Sum.inr a : Key) = Sum.inl b) = false := decide_eq_false (fun q => nomatch q)
def mixKind (prog : Program) (w : World) : PySem.KeyKind prog w Key where
  is := keyIs
  hash := keyH w
  inj := fun v a b ha hb => by
    rcases keyIs_shape ha with ⟨i, t, rfl, rfl⟩ | ⟨x, t, rfl, rfl⟩
    · rcases keyIs_shape hb with ⟨j, u, rfl, e⟩ | ⟨y, u, rfl, e⟩
      · injection e with e1 _; rw [e1]
      · exact nomatch e
    · rcases keyIs_shape hb with ⟨j, u, rfl, e⟩ | ⟨y, u, rfl, e⟩
      · exact nomatch e
      · injection e with e1 _; rw [e1]
  byValue := fun k v h => by
    rcases keyIs_shape h with ⟨i, t, rfl, rfl⟩ | ⟨x, t, rfl, rfl⟩ <;> rfl
  pyHash := fun hv h => by
    rcases keyIs_shape hv with ⟨i, t, rfl, rfl⟩ | ⟨x, t, rfl, rfl⟩
    · exact wpAny_pyHash_int h
    · exact wpAny_pyHash_str h
  eqBool := fun hu hv h => by
    rcases keyIs_shape hu with ⟨i, t, rfl, rfl⟩ | ⟨x, t, rfl, rfl⟩
    · rcases keyIs_shape hv with ⟨j, u, rfl, rfl⟩ | ⟨y, u, rfl, rfl⟩
      · rw [key_ll] at h; exact wpAny_eqBool_int h
      · rw [key_lr] at h; exact SeqAt.EqAt.int_str i t y u _ _ _ _ h
    · rcases keyIs_shape hv with ⟨j, u, rfl, rfl⟩ | ⟨y, u, rfl, rfl⟩
      · rw [key_rl] at h; exact SeqAt.EqAt.str_int x t j u _ _ _ _ h
      · rw [key_rr] at h; exact wpAny_eqBool_str h
  «strs» := fun k x t v h => by
    rcases keyIs_shape h with ⟨i, u, rfl, e⟩ | ⟨y, u, rfl, e⟩
    · exact nomatch e
    · injection e with e1 _
      subst e1
      cases v <;> rfl
end L2
namespace L2
open PySem PySem.Spec PyProof.Rows
inductive V where
  | non | bl (b : Bool) | int (i : Int) | str (x : Str) | byt (b : Array UInt8) | flt (b : UInt64) | ref (a : Addr) | ty (n : String)
  deriving DecidableEq
def RelV : V → Value → Prop
  | .non, u => u = Value.none
  | .bl b, u => u = Value.bool b
  | .int i, u => ∃ t, u = Value.int i t
  | .str x, u => ∃ t, u = Value.str x t
  | .byt b, u => ∃ t, u = Value.bytes b t
  | .flt b, u => ∃ t, u = Value.float b t
  | .ref a, u => u = Value.ref a
  | .ty n, u => u = Value.type n
abbrev Vals : List V → List Value → Prop := Paired RelV
theorem Vals.length {xs : List V} {us : List Value} (r : Vals xs us) : xs.length = us.length := Paired.length r
theorem Vals.get : ∀ {xs : List V} {us : List Value} {i : Nat} {x : V}, Vals xs us → xs[i]? = some x → ∃ u, us[i]? = some u ∧ RelV x u
  | _, _, _, _, .nil, e => by simp at e
  | _, _, 0, _, .cons r _, e => by simp at e; subst e; exact ⟨_, rfl, r⟩
  | _, _, i + 1, x, .cons _ t, e => by
    obtain ⟨u, h1, h2⟩ := Vals.get (i := i) (x := x) t (by simpa using e)
    exact ⟨u, by simpa using h1, h2⟩
theorem Vals.set {x : V} {u : Value} (r : RelV x u) : ∀ {xs : List V} {us : List Value} (i : Nat), Vals xs us → Vals (xs.set i x) (us.set i u)
  | _, _, _, .nil => .nil
  | _, _, 0, .cons _ t => .cons r t
  | _, _, i + 1, .cons q t => .cons q (Vals.set r i t)
theorem Vals.append : ∀ {xs ys : List V} {us ws : List Value}, Vals xs us → Vals ys ws → Vals (xs ++ ys) (us ++ ws)
  | _, _, _, _, .nil, s => s
  | _, _, _, _, .cons r t, s => .cons r (Vals.append t s)
theorem Vals.take : ∀ {xs : List V} {us : List Value} (n : Nat), Vals xs us → Vals (xs.take n) (us.take n)
  | _, _, 0, _ => .nil
  | _, _, _ + 1, .nil => .nil
  | _, _, n + 1, .cons r t => .cons r (Vals.take n t)
theorem Vals.drop : ∀ {xs : List V} {us : List Value} (n : Nat), Vals xs us → Vals (xs.drop n) (us.drop n)
  | _, _, 0, r => r
  | _, _, _ + 1, .nil => .nil
  | _, _, n + 1, .cons _ t => Vals.drop n t
def RelO : Option V → Option Value → Prop
  | some v, some u => RelV v u
  | none, none => True
  | _, _ => False
def KV {κ : Type} : List (κ × V) → List (κ × Value) → Prop := Paired fun (p : κ × V) (q : κ × Value) => p.1 = q.1 ∧ RelV p.2 q.2
inductive HO where
  /-- a list -/
  | lst (xs : List V)
  /-- a tuple (never changes) -/
  | tup (xs : List V)
  /-- a dict whose keys are ints and texts; one whose keys are tuples of ints and texts (the empty one is both) -/
  | dK (kvs : List (Key × V)) | dT (kvs : List (List Key × V))
  /-- a set of ints: its members, its size -/
  | set (S : Int → Bool) (n : Nat)
  /-- an instance of the class at C, its dict at dx, its attributes -/
  | ins (C dx : Addr) (fs : List (Str × V))
  /-- the dict of the instance at x -/
  | own (x : Addr)
  /-- the dict of an exception -/
  | xd (fs : List (Str × V))
  /-- a bound method, f of x -/
  | met (f x : Addr)
  /-- a range object lo, lo + 1, .. below hi -/
  | rng (lo hi : Int)
  /-- a thing that is known to the object (the script; a dict while a loop walks it): read, never written while it is so -/
  | frz (o : Obj) (u : HO)
  /-- a code object's table -/
  | tbl (ps : Array Value)
  /-- any other thing, by what is true of its one object (a def of one's own: SetO a S n := HO.ext fun h => ..) -/
  | ext (φ : Heap → Prop)
abbrev Hp := Addr → Option HO
def upd (H : Hp) (a : Addr) (o : HO) : Hp := fun b => if b = a then some o else H b
theorem upd_same {H : Hp} {a : Addr} {o : HO} : upd H a o a = some o := by unfold upd; rw [if_pos rfl]
theorem upd_ne {H : Hp} {a b : Addr} {o : HO} (h : b ≠ a) : upd H a o b = H b := by unfold upd; rw [if_neg h]
theorem ne_of {H : Hp} {a b : Addr} {o u : HO} (h : H a = some o) (h' : H b = some u) (d : o ≠ u) : a ≠ b := by
  intro e; subst e; rw [h] at h'; exact d (Option.some.inj h')
theorem ne_of_none {H : Hp} {a b : Addr} {o : HO} (h : H a = some o) (h' : H b = none) : a ≠ b := by
  intro e; subst e; rw [h] at h'; cases h'
section
variable (P : Program) (w : World)
def ObjOk (H : Hp) (h : Heap) (a : Addr) : HO → Prop
  | .lst xs => xs.length ≤ sizeLine ∧ ∃ (its : List Value) (n : Nat), Vals xs its ∧ h.get? a = some { cls := .type "list", data := .seq its.toArray n }
  | .tup xs => xs.length ≤ sizeLine ∧ ∃ its : List Value, Vals xs its ∧ IsTup h a its.toArray
  | .dK kvs => kvs.length ≤ sizeLine ∧ (a == sysModules) = false ∧ ∃ vs, KV kvs vs ∧ h.DictOf (mixKind P w) a vs
  | .dT _ => False
  | .set S n => h.SetOf (intKind P w) a S n
  | .ins C dx fs => H dx = some (.own a) ∧ fs.length ≤ 1000 ∧ dx ≠ a ∧ h.get? a = some (PySem.W.instObj C dx) ∧
      ∃ mA, h.Ns1 dx mA ∧ (∀ f, RelO (fs.lookup f) (mA f)) ∧ PySem.Within mA (fs.map (·.1))
  | .own _ => ∃ o, h.get? a = some o
  | .xd fs => ∃ mA, h.Ns1 a mA ∧ ∀ f, RelO (fs.lookup f) (mA f)
  | .rng lo hi => ∃ t u v, h.get? a = some { cls := .type "range", data := .fields #[.int lo t, .int hi u, .int 1 v] }
  | .frz o u => h.get? a = some o ∧ ObjOk H h a u
  | .tbl ps => h.get? a = some { cls := .none, data := .fields ps }
  | .met f x => h.get? a = some (PySem.W.methodObj (.ref f) (.ref x))
  | .ext φ => φ h ∧ (∃ o, h.get? a = some o) ∧ ∀ h1 h2 : Heap, φ h1 → (∀ o, h1.get? a = some o → h2.get? a = some o) → φ h2
def HOk (H : Hp) (h : Heap) : Prop := ∀ a o, H a = some o → ObjOk P w H h a o
end
section
variable {P : Program} {w : World} {H H' : Hp} {h h' : Heap} {a : Addr} {o : HO}
theorem ObjOk.lt (x : ObjOk P w H h a o) : a < h.objs.size := by
  cases o with
  | lst xs => obtain ⟨_, _, _, _, e⟩ := x; exact Heap.lt_size e
  | tup xs => obtain ⟨_, _, _, p⟩ := x; exact p.lt
  | dK kvs => obtain ⟨_, _, _, _, o, _, _, e, _⟩ := x; exact Heap.lt_size e
  | dT kvs => exact False.elim x
  | set S n => obtain ⟨o, _, _, _, e, _⟩ := x; exact Heap.lt_size e
  | ins C dx fs => obtain ⟨_, _, _, e, _⟩ := x; exact Heap.lt_size e
  | own y => obtain ⟨_, e⟩ := x; exact Heap.lt_size e
  | xd fs => obtain ⟨_, ⟨_, _, _, e, _⟩, _⟩ := x; exact Heap.lt_size e
  | rng lo hi => obtain ⟨_, _, _, e⟩ := x; exact Heap.lt_size e
  | frz ob u => obtain ⟨e, _⟩ := x; exact Heap.lt_size e
  | tbl ps => exact Heap.lt_size (show h.get? a = some _ from x)
  | met f y => exact Heap.lt_size (show h.get? a = some _ from x)
  | ext φ => obtain ⟨_, ⟨_, e⟩, _⟩ := x; exact Heap.lt_size e
theorem ObjOk.stay (x : ObjOk P w H h a o) (k : ∀ b u, (b = a ∨ H b = some (.own a)) → h.get? b = some u → h'.get? b = some u)
    (ho : ∀ b, H b = some (.own a) → H' b = some (.own a)) (ht : ∀ b xs, H b = some (.tup xs) → H' b = some (.tup xs)) : ObjOk P w H' h' a o := by
  induction o with
  | lst xs => obtain ⟨z, its, n, r, e⟩ := x; exact ⟨z, its, n, r, k _ _ (.inl rfl) e⟩
  | tup xs => obtain ⟨z, its, r, ob, e, c⟩ := x; exact ⟨z, its, r, ob, k _ _ (.inl rfl) e, c⟩
  | dK kvs => obtain ⟨z, y, vs, r, ob, es, ep, e, c⟩ := x; exact ⟨z, y, vs, r, ob, es, ep, k _ _ (.inl rfl) e, c⟩
  | dT kvs => exact False.elim x
  | set S n => obtain ⟨ob, es, ep, t, e, c⟩ := x; exact ⟨ob, es, ep, t, k _ _ (.inl rfl) e, c⟩
  | ins C dx fs =>
    obtain ⟨d, z, ne, e, mA, ⟨od, es, ep, e2, c⟩, r⟩ := x
    exact ⟨ho _ d, z, ne, k _ _ (.inl rfl) e, mA, ⟨od, es, ep, k _ _ (.inr d) e2, c⟩, r⟩
  | own y => obtain ⟨ob, e⟩ := x; exact ⟨ob, k _ _ (.inl rfl) e⟩
  | xd fs => obtain ⟨mA, ⟨od, es, ep, e, c⟩, r⟩ := x; exact ⟨mA, ⟨od, es, ep, k _ _ (.inl rfl) e, c⟩, r⟩
  | rng lo hi => obtain ⟨t, u, v, e⟩ := x; exact ⟨t, u, v, k _ _ (.inl rfl) e⟩
  | frz ob u ih => obtain ⟨e, q⟩ := x; exact ⟨k _ _ (.inl rfl) e, ih q⟩
  | tbl ps =>
    have e : h.get? a = some { cls := .none, data := .fields ps } := x
    show h'.get? a = some { cls := .none, data := .fields ps }
    exact k a _ (.inl rfl) e
  | met f y =>
    have e : h.get? a = some (PySem.W.methodObj (.ref f) (.ref y)) := x
    show h'.get? a = some (PySem.W.methodObj (.ref f) (.ref y))
    exact k a _ (.inl rfl) e
  | ext φ => obtain ⟨p, ⟨o, e⟩, st⟩ := x; exact ⟨st _ _ p fun o q => k _ _ (.inl rfl) q, ⟨o, k _ _ (.inl rfl) e⟩, st⟩
theorem HOk.lt (x : HOk P w H h) (e : H a = some o) : a < h.objs.size := (x a o e).lt
theorem HOk.fresh (x : HOk P w H h) (e : h.objs.size ≤ a) : H a = none := by
  cases q : H a with
  | none => rfl
  | some u => exact absurd (Nat.lt_of_lt_of_le (x.lt q) e) (Nat.lt_irrefl _)
theorem HOk.kept (x : HOk P w H h) (k : ∀ b u, h.get? b = some u → h'.get? b = some u) : HOk P w H h' := fun a o e =>
  (x a o e).stay (fun b u _ q => k b u q) (fun _ q => q) fun _ _ q => q
theorem HOk.laid (x : HOk P w H h) (k : ∀ b u, h.get? b = some u → h'.get? b = some u) (hp : h.objs.size ≤ a) (new : ObjOk P w (upd H a o) h' a o) : HOk P w (upd H a o) h' := fun b u e => by
  have hn := x.fresh hp
  by_cases hb : b = a
  · subst hb; rw [upd_same] at e; cases e; exact new
  · rw [upd_ne hb] at e
    exact (x b u e).stay (fun c v _ q => k c v q) (fun c q => by rw [upd_ne (ne_of_none q hn)]; exact q) fun c xs q => by rw [upd_ne (ne_of_none q hn)]; exact q
end
def Rd (H : Hp) (a : Addr) (u : HO) : Prop := H a = some u ∨ ∃ o, H a = some (.frz o u)
theorem Rd.ok {P : Program} {w : World} {H : Hp} {h : Heap} {a : Addr} {u : HO} (r : Rd H a u) (x : HOk P w H h) : ObjOk P w H h a u := by
  rcases r with r | ⟨o, r⟩
  · exact x a u r
  · obtain ⟨_, q⟩ := x a _ r
    exact q
def Mut : Option HO → Prop
  | some (.lst _) => True
  | some (.dK _) => True
  | some (.dT _) => True
  | some (.set _ _) => True
  | some (.ins _ _ _) => True
  | some (.ext _) => True
  | _ => False
section
variable {P : Program} {w : World} {H : Hp} {h h' : Heap} {x e : Addr} {o' : HO}
theorem HOk.write (ok : HOk P w H h) (mu : Mut (H x)) (he : e = x ∨ H e = some (.own x)) (k : ∀ b u, b ≠ e → h.get? b = some u → h'.get? b = some u) (heo : ∃ u, h'.get? e = some u)
    (new : ObjOk P w (upd H x o') h' x o') : HOk P w (upd H x o') h' := fun b u q => by
  have nown : ∀ c y, H c = some (.own y) → c ≠ x := fun c y r z => by subst z; rw [r] at mu; exact mu
  have ntup : ∀ c xs, H c = some (.tup xs) → c ≠ x := fun c xs r z => by subst z; rw [r] at mu; exact mu
  by_cases hb : b = x
  · subst hb; rw [upd_same] at q; cases q; exact new
  · rw [upd_ne hb] at q
    by_cases hbe : b = e
    · have q' : H b = some (.own x) := by
        rcases he with z | z
        · exact absurd (hbe.trans z) hb
        · rw [hbe]; exact z
      rw [q] at q'; cases q'
      obtain ⟨v, hv⟩ := heo
      exact ⟨v, by rw [hbe]; exact hv⟩
    · refine (ok b u q).stay (fun c v hc r => k c v ?_ r) (fun c r => by rw [upd_ne (nown c b r)]; exact r) fun c xs r => by rw [upd_ne (ntup c xs r)]; exact r
      rcases hc with rfl | hc
      · exact hbe
      · rintro rfl
        rcases he with z | z
        · exact nown c b hc z
        · rw [hc] at z; cases z; exact hb rfl
end
structure Un (fs ex : List Addr) (H H' : Hp) (h h' : Heap) : Prop where
  keep : ∀ b o, h.get? b = some o → H b = none → b ∉ fs → b ∉ ex → h'.get? b = some o
  slot : ∀ b o, h.get? b = some o → H b = none → b ∈ fs → b ∉ ex → ∃ sl, h'.get? b = some { o with slots := sl }
  free : ∀ b o, h.get? b = some o → H b = none → b ∉ ex → H' b = none
  there : ∀ b o, h.get? b = some o → b ∉ ex → ∃ o', h'.get? b = some o'
  tups : ∀ b xs, H b = some (.tup xs) → H' b = some (.tup xs)
  frzs : ∀ b o u, H b = some (.frz o u) → H' b = some (.frz o u)
  tbls : ∀ b ps, H b = some (.tbl ps) → ∃ more, H' b = some (.tbl (ps ++ more))
section
variable {fs fs' ex ex' : List Addr} {H H1 H2 : Hp} {h h1 h2 h' : Heap} {a x e : Addr} {o : HO}
theorem Un.any (u : Un fs ex H H1 h h1) {b : Addr} {ob : Obj} (q : h.get? b = some ob) (n : H b = none) (hx : b ∉ ex) : ∃ sl, h1.get? b = some { ob with slots := sl } := by
  by_cases hb : b ∈ fs
  · exact u.slot b ob q n hb hx
  · exact ⟨ob.slots, u.keep b ob q n hb hx⟩
theorem Un.kept (k : ∀ b u, h.get? b = some u → h'.get? b = some u) : Un fs ex H H h h' :=
  ⟨fun b ob q _ _ _ => k b ob q, fun b ob q _ _ _ => ⟨ob.slots, k b ob q⟩, fun _ _ _ n _ => n, fun b ob q _ => ⟨ob, k b ob q⟩, fun _ _ q => q, fun _ _ _ q => q, fun _ ps q => ⟨#[], by rw [q]; simp⟩⟩
theorem Un.refl : Un fs ex H H h h := Un.kept fun _ _ q => q
theorem Un.laid (k : ∀ b u, h.get? b = some u → h'.get? b = some u) (hp : h.objs.size ≤ a) (hn : H a = none) : Un fs ex H (upd H a o) h h' where
  keep := fun b u q _ _ _ => k b u q
  slot := fun b u q _ _ _ => ⟨u.slots, k b u q⟩
  free := fun b u q n _ => by rw [upd_ne (Nat.ne_of_lt (Nat.lt_of_lt_of_le (Heap.lt_size q) hp))]; exact n
  there := fun b u q _ => ⟨u, k b u q⟩
  tups := fun b xs q => by rw [upd_ne (ne_of_none q hn)]; exact q
  frzs := fun b u xs q => by rw [upd_ne (ne_of_none q hn)]; exact q
  tbls := fun b ps q => ⟨#[], by rw [upd_ne (ne_of_none q hn), q]; simp⟩
theorem Un.write (mu : Mut (H x)) (he : e = x ∨ H e = some (.own x)) (k : ∀ b u, b ≠ e → h.get? b = some u → h'.get? b = some u) (heo : ∃ u, h'.get? e = some u) : Un fs ex H (upd H x o) h h' := by
  have hx : ∀ b, H b = none → b ≠ x := fun b n z => by subst z; rw [n] at mu; exact mu
  have hb : ∀ b, H b = none → b ≠ e := fun b n z => by
    subst z
    rcases he with r | r
    · exact hx b n r
    · rw [n] at r; cases r
  have hm : ∀ b u, H b = some u → ¬ Mut (some u) → b ≠ x := fun b u q nm z => by subst z; rw [q] at mu; exact nm mu
  refine ⟨fun b u q n _ _ => k b u (hb b n) q, fun b u q n _ _ => ⟨u.slots, k b u (hb b n) q⟩, fun b u q n _ => by rw [upd_ne (hx b n)]; exact n, fun b u q _ => ?_,
    fun b xs q => by rw [upd_ne (hm b _ q fun z => z)]; exact q, fun b u xs q => by rw [upd_ne (hm b _ q fun z => z)]; exact q, fun b ps q => ⟨#[], by rw [upd_ne (hm b _ q fun z => z), q]; simp⟩⟩
  by_cases hbe : b = e
  · subst hbe; exact heo
  · exact ⟨u, k b u hbe q⟩
end
def trk (h : Heap) (H : Hp) : List Addr := (List.range h.objs.size).filter fun a => (H a).isSome
def hidT (h : Heap) (H : Hp) : Heap := PySem.W.hideAll h (trk h H)
theorem hidT_size (h : Heap) (H : Hp) : (hidT h H).objs.size = h.objs.size := PySem.W.hideAll_size _ _
theorem hidT_get {h : Heap} {H : Hp} {b : Addr} {o : Obj} (e : h.get? b = some o) (n : H b = none) : (hidT h H).get? b = some o :=
  PySem.W.hideAll_get _ e fun hm => by
    have q : (H b).isSome = true := (List.mem_filter.mp hm).2
    rw [n] at q; simp at q
theorem of_hidT {h : Heap} {H : Hp} {b : Addr} {o : Obj} (e : (hidT h H).get? b = some o) : h.get? b = some o ∧ H b = none := by
  have e' : h.get? b = some o := PySem.W.of_hideAll (trk h H) e
  refine ⟨e', ?_⟩
  cases q : H b with
  | none => rfl
  | some x =>
    have hm : b ∈ trk h H := List.mem_filter.mpr ⟨List.mem_range.mpr (Heap.lt_size e'), by simp [q]⟩
    have z : (hidT h H).get? b = none := PySem.W.hideAll_none (trk h H) hm
    rw [z] at e; cases e
end L2
namespace L2
open PySem PySem.Spec PyProof.Rows
structure Mod (K : PySem.W.Frag) (mg : Str → Option Value) (base : Heap) : Prop where
  kin : K.In base
  glob : base.Ns mainGlobals mg
  blt : ∃ mb, base.Ns builtinsNs mb ∧ ∀ x : Str, x ≠ "__name__" → mb x = bootBuiltins x
  nolimit : base.NoLimit
structure Cx where
  prog : Program
  w : World
  K : PySem.W.Frag
  mg : Str → Option Value
  base : Heap
  A : Around
  N : List Str
  s₀ : Shared
  H₀ : Hp
  env : Env
  outer : List Env
  stack : List Env
  ex : List Addr
  fn : Str → Bool
  calm : Bool
  pn : List (Addr × Obj)
  xe : Value → Shared → Prop
def frs (l : List Env) : List Addr := l.filterMap (·.frame)
abbrev Cx.fs (X : Cx) : List Addr := frs X.outer
def Vis (sc : Scope) (x : Str) : Prop := sc.names.lookup x = some .local ∨ sc.names.lookup x = some .cell ∨ sc.names.lookup x = some .free
def Loc (sc : Scope) (x : Str) : Prop := sc.names.lookup x = some .local ∨ sc.names.lookup x = some .cell
def Look (env : Env) (h : Heap) (m : Str → Option Value) (x : Str) (u : Value) : Prop :=
  (env.kindOf x = some .local ∧ m x = some u) ∨ ((env.kindOf x = some .cell ∨ env.kindOf x = some .free) ∧ ∃ c, env.cells.lookup x = some c ∧ h.IsCell c (some u))
structure Cx.Ok (X : Cx) : Prop where
  mod : Mod X.K X.mg X.base
  kind : X.env.scope.kind = .function
  glob : X.env.globals = mainGlobals
  blt : X.env.builtins = builtinsNs
  above : X.s₀.heap.objs.size ≤ X.env.locals
  inj : ∀ x y c, X.env.cells.lookup x = some c → X.env.cells.lookup y = some c → x = y
  has : ∀ x, (X.env.kindOf x = some .cell ∨ X.env.kindOf x = some .free) → ∃ c, X.env.cells.lookup x = some c
  cab : ∀ x c, X.fn x = true → X.env.cells.lookup x = some c → X.s₀.heap.objs.size ≤ c
  hd : X.calm = true → X.A.handled = none
  frames : X.A.frames = some X.stack
  stk : X.stack = X.outer ∨ (X.stack = X.env :: X.outer ∧ X.env.frame = some X.env.locals)
  exf : ∀ b ∈ X.ex, b ≠ X.env.locals ∧ ∀ x c, X.env.cells.lookup x = some c → c ≠ b
  bs : ∀ b o, X.base.get? b = some o → X.s₀.heap.get? b = some o ∧ X.H₀ b = none
  bsz : X.base.objs.size ≤ X.s₀.heap.objs.size
  noex : ∀ b o, X.base.get? b = some o → b ∉ X.ex
  exfs : ∀ b ∈ X.ex, b ∉ X.fs
  funs : X.s₀.heap.FunFrames X.base X.outer
  frf : ∀ b ∈ X.fs, X.H₀ b = none
structure Inv (X : Cx) (pins : List (Addr × Obj)) (σ : List (Option V)) (H : Hp) (s : Shared) : Prop where
  ok : X.Ok
  os : s.os = X.s₀.os
  bare : AllBare s.gens
  base : Un X.fs X.ex X.H₀ H X.s₀.heap s.heap
  loc : ∃ m, s.heap.Ns X.env.locals m ∧ ∀ (i : Nat) (x : Str) (v : V), X.N[i]? = some x → σ[i]? = some (some v) → Vis X.env.scope x → ∃ u, RelV v u ∧ Look X.env s.heap m x u
  cell : ∀ x c, X.env.cells.lookup x = some c → ∃ v, s.heap.IsCell c v
  free : H X.env.locals = none
  freeC : ∀ x c, X.env.cells.lookup x = some c → H c = none
  pin : ∀ p ∈ X.pn ++ pins, s.heap.get? p.1 = some p.2 ∧ H p.1 = none ∧ p.1 ≠ X.env.locals ∧ p.1 ∉ X.fs ∧ ∀ v, p.2.data ≠ .cell v
  hok : HOk X.prog X.w H s.heap
  len : σ.length = X.N.length
section
variable {X : Cx} {pins : List (Addr × Obj)} {σ : List (Option V)} {H H' : Hp} {s : Shared} {h' : Heap}
theorem Cx.Ok.nofr (ok : X.Ok) {b : Addr} {o : Obj} (e : X.base.get? b = some o) : b ∉ X.fs := fun hb => by
  have := (ok.funs.mem hb).1
  rw [e] at this; cases this
theorem Inv.bs (I : Inv X pins σ H s) : ∀ b o, X.base.get? b = some o → s.heap.get? b = some o ∧ H b = none := fun b o e =>
  ⟨I.base.keep b o (I.ok.bs b o e).1 (I.ok.bs b o e).2 (I.ok.nofr e) (I.ok.noex b o e), I.base.free b o (I.ok.bs b o e).1 (I.ok.bs b o e).2 (I.ok.noex b o e)⟩
theorem Inv.bk (I : Inv X pins σ H s) : ∀ b o, X.base.get? b = some o → s.heap.get? b = some o := fun b o e => (I.bs b o e).1
theorem Inv.mod (I : Inv X pins σ H s) : Mod X.K X.mg X.base := I.ok.mod
theorem Inv.kIn (I : Inv X pins σ H s) : X.K.In s.heap := I.ok.mod.kin.keeps I.bk
theorem Inv.lt (I : Inv X pins σ H s) : X.env.locals < s.heap.objs.size := let ⟨_, hn, _⟩ := I.loc; hn.lt
theorem Inv.sz (I : Inv X pins σ H s) : X.s₀.heap.objs.size ≤ s.heap.objs.size := Nat.le_trans I.ok.above (Nat.le_of_lt I.lt)
theorem Inv.nofs (I : Inv X pins σ H s) {a : Addr} (h : s.heap.objs.size ≤ a) : a ∉ X.fs := fun hb => by
  obtain ⟨_, o, ho, _⟩ := I.ok.funs.mem hb
  exact absurd (Nat.lt_of_lt_of_le (Heap.lt_size ho) (Nat.le_trans I.sz h)) (Nat.lt_irrefl _)
theorem Inv.cne (I : Inv X pins σ H s) : ∀ x c, X.env.cells.lookup x = some c → c ≠ X.env.locals := fun x c e z => by
  obtain ⟨v, o, ho, hd⟩ := I.cell x c e
  obtain ⟨m, ⟨o', es, ep, ho', hd', _⟩, _⟩ := I.loc
  rw [z, ho'] at ho; cases ho; rw [hd'] at hd; cases hd
theorem Inv.funs (I : Inv X pins σ H s) : s.heap.FunFrames X.base X.outer := by
  have all : ∀ (l : List Env), (∀ b ∈ frs l, b ∈ X.fs) → X.s₀.heap.FunFrames X.base l → s.heap.FunFrames X.base l := by
    intro l
    induction l with
    | nil => intro _ _; trivial
    | cons env r ih =>
      intro hs hl
      obtain ⟨hk, ⟨L, o, hf, hn, ho, hd⟩, hr⟩ := hl
      have hL : L ∈ X.fs := hs L (by unfold frs; rw [List.filterMap_cons, hf]; exact List.mem_cons_self)
      obtain ⟨sl, e⟩ := I.base.slot L o ho (I.ok.frf L hL) hL fun z => I.ok.exfs L z hL
      exact ⟨hk, ⟨L, _, hf, hn, e, hd⟩, ih (fun b hb => hs b (by unfold frs; rw [List.filterMap_cons, hf]; exact List.mem_cons_of_mem _ hb)) hr⟩
  exact all X.outer (fun _ hb => hb) I.ok.funs
theorem Inv.stack (I : Inv X pins σ H s) : s.heap.FunFrames X.base X.stack := by
  rcases I.ok.stk with e | ⟨e, hf⟩
  · rw [e]; exact I.funs
  · rw [e]
    obtain ⟨m, hn, _⟩ := I.loc
    refine .cons (by rw [I.ok.kind]; decide) hf hn ?_ I.funs
    exact Heap.get?_none_of_le (Nat.le_trans I.ok.bsz I.ok.above)
theorem Inv.stkSub (I : Inv X pins σ H s) : ∀ b ∈ frs X.stack, b ∈ X.env.locals :: X.fs := fun b hb => by
  rcases I.ok.stk with e | ⟨e, hf⟩
  · rw [e] at hb; exact List.mem_cons_of_mem _ hb
  · rw [e] at hb
    unfold frs at hb
    rw [List.filterMap_cons, hf] at hb
    exact hb
theorem Inv.stkFree (I : Inv X pins σ H s) : ∀ b ∈ frs X.stack, H b = none := fun b hb => by
  rcases List.mem_cons.mp (I.stkSub b hb) with e | hb
  · rw [e]; exact I.free
  · obtain ⟨_, o, ho, _⟩ := I.ok.funs.mem hb
    exact I.base.free b o ho (I.ok.frf b hb) fun z => I.ok.exfs b z hb
theorem Inv.step {g' : Array GenState} {t' : Nat} {d' : Drawn} {ch : List Addr} (I : Inv X pins σ H s)
    (hch : ∀ b ∈ ch, (b ∈ X.ex ∨ X.s₀.heap.objs.size ≤ b) ∧ b ≠ X.env.locals ∧ (∀ x c, X.env.cells.lookup x = some c → c ≠ b) ∧ ∀ p ∈ X.pn ++ pins, p.1 ≠ b)
    (keep : ∀ b o, b ≠ X.env.locals → b ∉ X.fs → b ∉ ch → s.heap.get? b = some o → H b = none → h'.get? b = some o)
    (slot : ∀ b o, b ≠ X.env.locals → b ∈ X.fs → b ∉ ch → s.heap.get? b = some o → H b = none → ∃ sl, h'.get? b = some { o with slots := sl }) (free : ∀ b o, b ∉ ch → s.heap.get? b = some o → H b = none → H' b = none)
    (there : ∀ b o, b ∉ ch → s.heap.get? b = some o → ∃ o', h'.get? b = some o')
    (tups : ∀ b xs, H b = some (.tup xs) → H' b = some (.tup xs)) (frzs : ∀ b o u, H b = some (.frz o u) → H' b = some (.frz o u)) (tbls : ∀ b ps, H b = some (.tbl ps) → ∃ more, H' b = some (.tbl (ps ++ more)))
    (ns : ∀ m, s.heap.Ns X.env.locals m → h'.Ns X.env.locals m) (hok : HOk X.prog X.w H' h') (hg : AllBare g') :
    Inv X pins σ H' { s with heap := h', gens := g', drawn := d', toks := t' } := by
  have neL : ∀ b o, X.s₀.heap.get? b = some o → b ≠ X.env.locals := fun b o e => Nat.ne_of_lt (Nat.lt_of_lt_of_le (Heap.lt_size e) I.ok.above)
  have neC : ∀ b o, X.s₀.heap.get? b = some o → b ∉ X.ex → b ∉ ch := fun b o e hx hb => by
    rcases (hch b hb).1 with z | z
    · exact hx z
    · exact absurd (Nat.lt_of_lt_of_le (Heap.lt_size e) z) (Nat.lt_irrefl _)
  have cellK : ∀ x c, X.env.cells.lookup x = some c → ∀ v, s.heap.IsCell c v → h'.IsCell c v := fun x c e v ⟨o, ho, hd⟩ => by
    have nch : c ∉ ch := fun z => (hch c z).2.2.1 x c e rfl
    by_cases hc : c ∈ X.fs
    · obtain ⟨sl, q⟩ := slot c o (I.cne x c e) hc nch ho (I.freeC x c e)
      exact ⟨_, q, hd⟩
    · exact ⟨o, keep c o (I.cne x c e) hc nch ho (I.freeC x c e), hd⟩
  refine ⟨I.ok, I.os, hg, ⟨fun b o e n hb hx => ?_, fun b o e n hb hx => ?_, fun b o e n hx => ?_, fun b o e hx => ?_, fun b xs e => tups b xs (I.base.tups b xs e), fun b o xs e => frzs b o xs (I.base.frzs b o xs e), fun b ps e => ?_⟩, ?_, fun x c e => ?_, ?_, fun x c e => ?_, fun p hp => ?_, hok, I.len⟩
  · exact keep b o (neL b o e) hb (neC b o e hx) (I.base.keep b o e n hb hx) (I.base.free b o e n hx)
  · obtain ⟨sl, e1⟩ := I.base.slot b o e n hb hx
    obtain ⟨sl', e2⟩ := slot b _ (neL b o e) hb (neC b o e hx) e1 (I.base.free b o e n hx)
    exact ⟨sl', e2⟩
  · obtain ⟨o', e1⟩ := I.base.there b o e hx
    exact free b o' (neC b o e hx) e1 (I.base.free b o e n hx)
  · obtain ⟨o', e1⟩ := I.base.there b o e hx
    exact there b o' (neC b o e hx) e1
  · obtain ⟨m1, e1⟩ := I.base.tbls b ps e
    obtain ⟨m2, e2⟩ := tbls b _ e1
    exact ⟨m1 ++ m2, by rw [e2, Array.append_assoc]⟩
  · obtain ⟨m, hn, hl⟩ := I.loc
    refine ⟨m, ns m hn, fun i x v e1 e2 e3 => ?_⟩
    obtain ⟨u, r, l⟩ := hl i x v e1 e2 e3
    refine ⟨u, r, ?_⟩
    rcases l with l | ⟨k, c, e, z⟩
    · exact .inl l
    · exact .inr ⟨k, c, e, cellK x c e _ z⟩
  · obtain ⟨v, z⟩ := I.cell x c e
    exact ⟨v, cellK x c e v z⟩
  · obtain ⟨m, ⟨o, _, _, ho, _⟩, _⟩ := I.loc
    exact free _ o (fun z => (hch _ z).2.1 rfl) ho I.free
  · obtain ⟨v, o, ho, hd⟩ := I.cell x c e
    exact free c o (fun z => (hch c z).2.2.1 x c e rfl) ho (I.freeC x c e)
  · obtain ⟨e, n, ne, nf, d⟩ := I.pin p hp
    have nch : p.1 ∉ ch := fun z => (hch p.1 z).2.2.2 p hp rfl
    exact ⟨keep p.1 p.2 ne nf nch e n, free p.1 p.2 nch e n, ne, nf, d⟩
theorem Inv.un {t' : Nat} (I : Inv X pins σ H s) (u : Un X.fs [] H H' s.heap h') (hok : HOk X.prog X.w H' h') : Inv X pins σ H' { s with heap := h', toks := t' } := by
  obtain ⟨m, ⟨o, es, ep, ho, r⟩, _⟩ := id I.loc
  obtain ⟨sl, hL⟩ := u.any ho I.free (by simp)
  exact I.step (g' := s.gens) (d' := s.drawn) (ch := []) (fun _ z => nomatch z) (fun b o _ hb _ e n => u.keep b o e n hb (by simp)) (fun b o _ hb _ e n => u.slot b o e n hb (by simp)) (fun b o _ e n => u.free b o e n (by simp)) (fun b o _ e => u.there b o e (by simp)) u.tups u.frzs u.tbls (fun m' hm => by
    obtain ⟨o', es', ep', ho', r'⟩ := hm
    rw [ho] at ho'; cases ho'
    exact ⟨_, es', ep', hL, r'⟩) hok I.bare
theorem Inv.call {g' : Array GenState} {t' : Nat} {d' : Drawn} {ch : List Addr} (I : Inv X pins σ H s) (u : Un (frs X.stack) ch H H' s.heap h') (hok : HOk X.prog X.w H' h') (hg : AllBare g')
    (hch : ∀ b ∈ ch, (b ∈ X.ex ∨ X.s₀.heap.objs.size ≤ b) ∧ b ≠ X.env.locals ∧ (∀ x c, X.env.cells.lookup x = some c → c ≠ b) ∧ ∀ p ∈ X.pn ++ pins, p.1 ≠ b) :
    Inv X pins σ H' { s with heap := h', gens := g', drawn := d', toks := t' } := by
  obtain ⟨m, ⟨o, es, ep, ho, r⟩, _⟩ := id I.loc
  obtain ⟨sl, hL⟩ := u.any ho I.free fun z => (hch _ z).2.1 rfl
  exact I.step (ch := ch) hch (fun b o hL hb hc e n => u.keep b o e n (fun z => (List.mem_cons.mp (I.stkSub b z)).elim hL hb) hc) (fun b o _ _ hc e n => u.any e n hc) (fun b o hc e n => u.free b o e n hc) (fun b o hc e => u.there b o e hc) u.tups u.frzs u.tbls (fun m' hm => by
    obtain ⟨o', es', ep', ho', r'⟩ := hm
    rw [ho] at ho'; cases ho'
    exact ⟨_, es', ep', hL, r'⟩) hok hg
theorem Inv.turned {t' : Nat} {it : Addr} (I : Inv X pins σ H s) (k : ∀ b o, b ≠ it → s.heap.get? b = some o → h'.get? b = some o) (hn : H it = none) (hL : it ≠ X.env.locals)
    (h1 : it ∈ X.ex ∨ X.s₀.heap.objs.size ≤ it) (h2 : ∀ x c, X.env.cells.lookup x = some c → c ≠ it) (h3 : ∀ p ∈ X.pn ++ pins, p.1 ≠ it) : Inv X pins σ H { s with heap := h', toks := t' } := by
  have nit : ∀ b u, H b = some u → b ≠ it := fun b u e z => by rw [z, hn] at e; cases e
  refine I.step (g' := s.gens) (d' := s.drawn) (ch := [it]) (fun b hb => ?_) (fun b o _ _ hc e _ => k b o (fun z => hc (by simp [z])) e) (fun b o _ _ hc e _ => ⟨o.slots, k b o (fun z => hc (by simp [z])) e⟩) (fun _ _ _ _ n => n)
    (fun b o hc e => ⟨o, k b o (fun z => hc (by simp [z])) e⟩) (fun _ _ e => e) (fun _ _ _ e => e) (fun b ps e => ⟨#[], by rw [e]; simp⟩) (fun m hm => ?_) (fun b u e => ?_) I.bare
  · have e : b = it := by simpa using hb
    subst e
    exact ⟨h1, hL, h2, h3⟩
  · obtain ⟨o, es, ep, ho, r⟩ := hm
    exact ⟨o, es, ep, k _ o (Ne.symm hL) ho, r⟩
  · refine (I.hok b u e).stay (fun c v hc q => k c v ?_ q) (fun _ q => q) fun _ _ q => q
    rcases hc with z | z
    · rw [z]; exact nit b u e
    · exact nit c _ z
theorem Inv.tok (I : Inv X pins σ H s) (t : Nat) : Inv X pins σ H { s with toks := t } := I.un (h' := s.heap) (t' := t) Un.refl I.hok
theorem Inv.kept {t' : Nat} (I : Inv X pins σ H s) (k : ∀ b u, s.heap.get? b = some u → h'.get? b = some u) : Inv X pins σ H { s with heap := h', toks := t' } := I.un (Un.kept k) (I.hok.kept k)
theorem Inv.laid {a : Addr} {o : HO} {t' : Nat} (I : Inv X pins σ H s) (k : ∀ b u, s.heap.get? b = some u → h'.get? b = some u) (hp : s.heap.objs.size ≤ a) (new : ObjOk X.prog X.w (upd H a o) h' a o) :
    Inv X pins σ (upd H a o) { s with heap := h', toks := t' } := I.un (Un.laid k hp (I.hok.fresh hp)) (I.hok.laid k hp new)
theorem Inv.write {x e : Addr} {o : HO} {t' : Nat} (I : Inv X pins σ H s) (mu : Mut (H x)) (he : e = x ∨ H e = some (.own x)) (k : ∀ b u, b ≠ e → s.heap.get? b = some u → h'.get? b = some u) (heo : ∃ u, h'.get? e = some u)
    (new : ObjOk X.prog X.w (upd H x o) h' x o) : Inv X pins σ (upd H x o) { s with heap := h', toks := t' } := I.un (Un.write mu he k heo) (I.hok.write mu he k heo new)
theorem Inv.pins_of {pins' : List (Addr × Obj)} (I : Inv X pins σ H s) (h : ∀ p ∈ pins', s.heap.get? p.1 = some p.2 ∧ H p.1 = none ∧ p.1 ≠ X.env.locals ∧ p.1 ∉ X.fs ∧ ∀ v, p.2.data ≠ .cell v) : Inv X pins' σ H s :=
  ⟨I.ok, I.os, I.bare, I.base, I.loc, I.cell, I.free, I.freeC, fun p hp => (List.mem_append.mp hp).elim (fun z => I.pin p (List.mem_append_left _ z)) (h p), I.hok, I.len⟩
theorem nodup_ix {N : List Str} (hN : N.Nodup) {i j : Nat} {x : Str} (a : N[i]? = some x) (b : N[j]? = some x) : i = j := by
  obtain ⟨h1, e1⟩ := List.getElem?_eq_some_iff.mp a
  obtain ⟨h2, e2⟩ := List.getElem?_eq_some_iff.mp b
  exact (List.getElem_inj hN).mp (e1.trans e2.symm)
theorem store_ok2 {M : Model} {A : Around} {E : Value → Shared → Prop} {i : Nat} {x : Str} {v : V} {u : Value} {Q : Unit → Shared → Prop} (I : Inv X pins σ H s) (hN : X.N.Nodup) (hi : X.N[i]? = some x) (hx : Loc X.env.scope x) (r : RelV v u)
    (h : ∀ s', Inv X pins (σ.set i (some v)) H s' → (∃ a, Heap.SameBut a s.heap s'.heap ∧ (a = X.env.locals ∨ X.env.cells.lookup x = some a)) → Q () s') (hf : X.fn x = true ∨ X.env.scope.names.lookup x = some .local := by first | exact .inl rfl | exact .inr rfl | assumption) : wpAny M A (storeName X.env x u) Q E s := by
  obtain ⟨m, hn, hl⟩ := id I.loc
  have hcls : (X.env.scope.kind == .class || (X.env.scope.kind == .module && X.env.locals != X.env.globals)) = false := by rw [I.ok.kind]; rfl
  have hiσ : i < σ.length := by rw [I.len]; exact (List.getElem?_eq_some_iff.mp hi).1
  have cne := I.cne
  have tracked : ∀ {a : Addr} {h' : Heap}, (∃ o, s.heap.get? a = some o ∧ H a = none) → Heap.SameBut a s.heap h' → HOk X.prog X.w H h' := fun {a h'} ha hs b ob e => by
    obtain ⟨_, _, hfree⟩ := ha
    refine (I.hok b ob e).stay (fun c w' hc q => (hs.2 c ?_).trans q) (fun _ q => q) fun _ _ q => q
    rintro rfl
    rcases hc with rfl | hc
    · rw [hfree] at e; cases e
    · rw [hfree] at hc; cases hc
  rcases hx with hk | hk
  · refine wpAny_storeName_local hk hn (fun h' hn' hs => ?_) hcls
    obtain ⟨oL, _, _, hoL, _⟩ := id hn
    refine h _ ⟨I.ok, I.os, I.bare, ⟨fun b o e n hb hx => ?_, fun b o e n hb hx => ?_, I.base.free, fun b o e hx => ?_, I.base.tups, I.base.frzs, I.base.tbls⟩, ⟨_, hn', fun j y v' e1 e2 e3 => ?_⟩, fun y c e => ?_, I.free, I.freeC, fun p hp => ?_, tracked ⟨oL, hoL, I.free⟩ hs, by simpa using I.len⟩ ⟨_, hs, .inl rfl⟩
    · exact (hs.2 b (Nat.ne_of_lt (Nat.lt_of_lt_of_le (Heap.lt_size e) I.ok.above))).trans (I.base.keep b o e n hb hx)
    · obtain ⟨sl, e1⟩ := I.base.slot b o e n hb hx
      exact ⟨sl, (hs.2 b (Nat.ne_of_lt (Nat.lt_of_lt_of_le (Heap.lt_size e) I.ok.above))).trans e1⟩
    · obtain ⟨o', e1⟩ := I.base.there b o e hx
      exact ⟨o', (hs.2 b (Nat.ne_of_lt (Nat.lt_of_lt_of_le (Heap.lt_size e) I.ok.above))).trans e1⟩
    · by_cases hj : j = i
      · subst hj
        rw [hi] at e1; cases e1
        rw [List.getElem?_set_self hiσ] at e2
        cases e2
        exact ⟨u, r, .inl ⟨hk, by simp⟩⟩
      · rw [List.getElem?_set_ne (Ne.symm hj)] at e2
        obtain ⟨u', r', q⟩ := hl j y v' e1 e2 e3
        refine ⟨u', r', ?_⟩
        rcases q with ⟨k, e⟩ | ⟨k, c, e, z⟩
        · refine .inl ⟨k, ?_⟩
          have : y ≠ x := fun e => hj (nodup_ix hN e1 (e ▸ hi))
          simp [this, e]
        · exact .inr ⟨k, c, e, z.sameBut hs (cne y c e)⟩
    · obtain ⟨w', z⟩ := I.cell y c e
      exact ⟨w', z.sameBut hs (cne y c e)⟩
    · obtain ⟨e, n, ne, nf, d⟩ := I.pin p hp
      exact ⟨(hs.2 p.1 ne).trans e, n, ne, nf, d⟩
  · have hfn : X.fn x = true := by
      rcases hf with z | z
      · exact z
      · rw [z] at hk; cases hk
    obtain ⟨c, hc⟩ := I.ok.has x (.inl hk)
    obtain ⟨w', z⟩ := I.cell x c hc
    refine wpAny_storeName_cell I.ok.kind hk hc z (fun h' hc' hs => ?_)
    obtain ⟨oc, hoc, hocd⟩ := id z
    refine h { s with heap := h' } ⟨I.ok, I.os, I.bare, ⟨fun b o e n hb hx => ?_, fun b o e n hb hx => ?_, I.base.free, fun b o e hx => ?_, I.base.tups, I.base.frzs, I.base.tbls⟩, ⟨m, hn.sameBut hs (Ne.symm (cne x c hc)), fun j y v' e1 e2 e3 => ?_⟩, fun y c' e => ?_, I.free, I.freeC, fun p hp => ?_, tracked ⟨oc, hoc, I.freeC x c hc⟩ hs, by simpa using I.len⟩ ⟨c, hs, .inr hc⟩
    · exact (hs.2 b (Nat.ne_of_lt (Nat.lt_of_lt_of_le (Heap.lt_size e) (I.ok.cab x c hfn hc)))).trans (I.base.keep b o e n hb hx)
    · obtain ⟨sl, e1⟩ := I.base.slot b o e n hb hx
      exact ⟨sl, (hs.2 b (Nat.ne_of_lt (Nat.lt_of_lt_of_le (Heap.lt_size e) (I.ok.cab x c hfn hc)))).trans e1⟩
    · obtain ⟨o', e1⟩ := I.base.there b o e hx
      exact ⟨o', (hs.2 b (Nat.ne_of_lt (Nat.lt_of_lt_of_le (Heap.lt_size e) (I.ok.cab x c hfn hc)))).trans e1⟩
    · by_cases hj : j = i
      · subst hj
        rw [hi] at e1; cases e1
        rw [List.getElem?_set_self hiσ] at e2
        cases e2
        exact ⟨u, r, .inr ⟨.inl hk, c, hc, hc'⟩⟩
      · rw [List.getElem?_set_ne (Ne.symm hj)] at e2
        obtain ⟨u', r', q⟩ := hl j y v' e1 e2 e3
        refine ⟨u', r', ?_⟩
        rcases q with q | ⟨k, c', e, z'⟩
        · exact .inl q
        · refine .inr ⟨k, c', e, z'.sameBut hs ?_⟩
          rintro rfl
          exact hj (nodup_ix hN e1 (I.ok.inj _ _ _ e hc ▸ hi))
    · by_cases hcc : c' = c
      · subst hcc; exact ⟨_, hc'⟩
      · obtain ⟨w2, z2⟩ := I.cell y c' e
        exact ⟨w2, z2.sameBut hs hcc⟩
    · obtain ⟨e, n, ne, nf, d⟩ := I.pin p hp
      refine ⟨(hs.2 p.1 ?_).trans e, n, ne, nf, d⟩
      intro q
      rw [q, hoc] at e
      have q' : oc = p.2 := Option.some.inj e
      exact d w' (by rw [← q']; exact hocd)
theorem store_ok {M : Model} {A : Around} {E : Value → Shared → Prop} {i : Nat} {x : Str} {v : V} {u : Value} {Q : Unit → Shared → Prop} (I : Inv X pins σ H s) (hN : X.N.Nodup) (hi : X.N[i]? = some x) (hx : Loc X.env.scope x) (r : RelV v u)
    (h : ∀ s', Inv X pins (σ.set i (some v)) H s' → Q () s') (hf : X.fn x = true ∨ X.env.scope.names.lookup x = some .local := by first | exact .inl rfl | exact .inr rfl | assumption) : wpAny M A (storeName X.env x u) Q E s :=
  store_ok2 I hN hi hx r (fun s' I' _ => h s' I') hf
theorem Inv.call' {s' : Shared} {ch : List Addr} (I : Inv X pins σ H s) (ho : s'.os = s.os) (u : Un (frs X.stack) ch H H' s.heap s'.heap) (hok : HOk X.prog X.w H' s'.heap) (hg : AllBare s'.gens)
    (hch : ∀ b ∈ ch, (b ∈ X.ex ∨ X.s₀.heap.objs.size ≤ b) ∧ b ≠ X.env.locals ∧ (∀ x c, X.env.cells.lookup x = some c → c ≠ b) ∧ ∀ p ∈ X.pn ++ pins, p.1 ≠ b) : Inv X pins σ H' s' := by
  obtain ⟨h', g', d', t', o'⟩ := s'
  have e : o' = s.os := ho
  subst e
  exact I.call (g' := g') (t' := t') (d' := d') u hok hg hch
end
abbrev XK := Value → Option Addr → Hp → Prop
abbrev St := List (Option V)
abbrev VK := V → Hp → Prop
abbrev TE := St → Hp → VK → Prop
abbrev TT := St → Hp → (Bool → Hp → Prop) → Prop
abbrev TA := St → Hp → (List V → Hp → Prop) → Prop
structure Ends where
  nx : St → Hp → Prop
  rt : VK
  bk : St → Hp → Prop := fun _ _ => False
  ct : St → Hp → Prop := fun _ _ => False
abbrev TS := Ends → St → Hp → Prop
def EP (X : Cx) (pins : List (Addr × Obj)) (σ : St) (Q : VK) (u : Value) (s' : Shared) : Prop := ∃ v H', Inv X pins σ H' s' ∧ RelV v u ∧ Q v H'
def TP (X : Cx) (pins : List (Addr × Obj)) (σ : St) (Q : Bool → Hp → Prop) (b : Bool) (s' : Shared) : Prop := ∃ H', Inv X pins σ H' s' ∧ Q b H'
def AP (X : Cx) (pins : List (Addr × Obj)) (σ : St) (Q : List V → Hp → Prop) (us : List Value) (s' : Shared) : Prop := ∃ vs H', Inv X pins σ H' s' ∧ Vals vs us ∧ Q vs H'
def SP (X : Cx) (pins : List (Addr × Obj)) (D : Ends) (f : Flow) (s' : Shared) : Prop :=
  match f with
  | .next => ∃ σ' H', Inv X pins σ' H' s' ∧ D.nx σ' H'
  | .brk => ∃ σ' H', Inv X pins σ' H' s' ∧ D.bk σ' H'
  | .cont => ∃ σ' H', Inv X pins σ' H' s' ∧ D.ct σ' H'
  | .ret u => ∃ v σ' H', Inv X pins σ' H' s' ∧ RelV v u ∧ D.rt v H'
def PE (X : Cx) (e : Expr) (t : TE) : Prop :=
  ∀ (pins : List (Addr × Obj)) (s : Shared) (σ : St) (H : Hp) (Q : VK), Inv X pins σ H s → t σ H Q → wpAny (model X.prog X.w) X.A (eval e X.env) (EP X pins σ Q) X.xe s
def PT (X : Cx) (e : Expr) (t : TT) : Prop :=
  ∀ (pins : List (Addr × Obj)) (s : Shared) (σ : St) (H : Hp) (Q : Bool → Hp → Prop), Inv X pins σ H s → t σ H Q → wpAny (model X.prog X.w) X.A (isTrue e X.env (eval e X.env)) (TP X pins σ Q) X.xe s
def PW (X : Cx) (e : Expr) (t : TT) : Prop :=
  ∀ (whole : Sem Value) (pins : List (Addr × Obj)) (s : Shared) (σ : St) (H : Hp) (Q : Bool → Hp → Prop), Inv X pins σ H s → t σ H Q → wpAny (model X.prog X.w) X.A (isTrue e X.env whole) (TP X pins σ Q) X.xe s
theorem PW.pt {X : Cx} {e : Expr} {t : TT} (h : PW X e t) : PT X e t := h _
def PA (X : Cx) (es : List Expr) (t : TA) : Prop :=
  ∀ (pos : Pos) (pins : List (Addr × Obj)) (s : Shared) (σ : St) (H : Hp) (Q : List V → Hp → Prop), Inv X pins σ H s → t σ H Q → wpAny (model X.prog X.w) X.A (spliced (backTo pos (starEach es X.env))) (AP X pins σ Q) X.xe s
def PS (X : Cx) (st : Stmt) (t : TS) : Prop :=
  ∀ (pins : List (Addr × Obj)) (s : Shared) (σ : St) (H : Hp) (D : Ends), Inv X pins σ H s → t D σ H → wpAny (model X.prog X.w) X.A (exec st X.env) (SP X pins D) X.xe s
def PSs (X : Cx) (st : List Stmt) (t : TS) : Prop :=
  ∀ (pins : List (Addr × Obj)) (s : Shared) (σ : St) (H : Hp) (D : Ends), Inv X pins σ H s → t D σ H → wpAny (model X.prog X.w) X.A (execs st X.env) (SP X pins D) X.xe s
theorem thn {α : Type} {t : Sem α} {Q Q' : α → Shared → Prop} {M : Model} {A : Around} {E : Value → Shared → Prop} {s : Shared} (h : wpAny M A t Q E s) (hQ : ∀ a s, Q a s → Q' a s) : wpAny M A t Q' E s := wpAny_mono h hQ fun _ _ x => x
end L2
namespace L2
open PySem PySem.Spec PyProof.Rows
section
variable {X : Cx}
def tVar (i : Nat) : TE := fun σ H Q => ∃ v, σ[i]? = some (some v) ∧ Q v H
def tC (v : V) : TE := fun _ H Q => Q v H
theorem pe_var {i : Nat} {x : Str} {pos : Pos} (hN : X.N[i]? = some x) (hv : Vis X.env.scope x) (hd : (x == ("__debug__" : Str)) = false := by decide) (hcd : (x == ("__classdict__" : Str)) = false := by decide) : PE X (.Name x pos) (tVar i) := by
  intro pins s σ H Q I h
  obtain ⟨v, e, h⟩ := h
  obtain ⟨m, hn, hl⟩ := I.loc
  obtain ⟨u, r, l⟩ := hl i x v hN e hv
  have fin : EP X pins σ Q u s := ⟨v, H, I, r, h⟩
  rcases l with ⟨hk, hm⟩ | ⟨hk, c, hc, hcell⟩
  · exact wpAny_Name (wpAny_loadName_local I.ok.kind hk hn hm fin) hd
  · rcases hk with hk | hk
    · exact wpAny_Name (wpAny_loadName_cell I.ok.kind hk hc hcell fin) hd
    · exact wpAny_Name (wpAny_loadName_free I.ok.kind hk hc hcell fin hcd) hd
theorem pe_int {i j pos} : PE X (.Constant (.int i) j pos) (tC (.int i)) := fun _ _ _ H _ I h => wpAny_Constant_int ⟨.int i, H, I.tok _, ⟨_, rfl⟩, h⟩
theorem pe_bl {b j pos} : PE X (.Constant (.bool b) j pos) (tC (.bl b)) := fun _ _ _ H _ I h => Constant_bool ⟨.bl b, H, I, rfl, h⟩
theorem pe_non {j pos} : PE X (.Constant .none j pos) (tC .non) := fun _ _ _ H _ I h => Constant_none ⟨.non, H, I, rfl, h⟩
theorem pe_str {x j pos} : PE X (.Constant (.str x) j pos) (tC (.str x)) := fun _ _ _ H _ I h => Calls.Constant_str ⟨.str x, H, I.tok _, ⟨_, rfl⟩, h⟩
def Gl (X : Cx) (x : Str) : Prop := X.env.kindOf x = some .globalImplicit
theorem ld_glob {E : Value → Shared → Prop} {pins : List (Addr × Obj)} {s : Shared} {σ : St} {H : Hp} {x : Str} {u : Value} {pos : Pos} {Q : Value → Shared → Prop} (I : Inv X pins σ H s) (hg : Gl X x) (hm : X.mg x = some u) (h : Q u s)
    (hd : (x == ("__debug__" : Str)) = false := by decide) : wpAny (model X.prog X.w) X.A (eval (.Name x pos) X.env) Q E s :=
  Calls.Name_function_global I.ok.kind hg (Calls.loadGlobal_global (by rw [I.ok.glob]; exact I.mod.glob.keeps I.bk) hm h) hd
theorem ld_blt {E : Value → Shared → Prop} {pins : List (Addr × Obj)} {s : Shared} {σ : St} {H : Hp} {x : Str} {u : Value} {pos : Pos} {Q : Value → Shared → Prop} (I : Inv X pins σ H s) (hg : Gl X x) (hm : X.mg x = none) (hv : bootBuiltins x = some u) (h : Q u s)
    (hn : x ≠ "__name__" := by decide) (hd : (x == ("__debug__" : Str)) = false := by decide) : wpAny (model X.prog X.w) X.A (eval (.Name x pos) X.env) Q E s := by
  obtain ⟨mb, h1, h2⟩ := I.mod.blt
  exact Calls.Name_function_global I.ok.kind hg (Calls.loadGlobal_builtin (by rw [I.ok.glob]; exact I.mod.glob.keeps I.bk) hm (by rw [I.ok.blt]; exact h1.keeps I.bk) ((h2 x hn).trans hv) h) hd
theorem pe_glob {x : Str} {v : V} {u : Value} {pos : Pos} (hg : Gl X x) (hm : X.mg x = some u) (r : RelV v u) (hd : (x == ("__debug__" : Str)) = false := by decide) : PE X (.Name x pos) (tC v) :=
  fun _ _ _ H _ I h => ld_glob I hg hm ⟨v, H, I, r, h⟩ hd
theorem pe_bltn {x : Str} {v : V} {u : Value} {pos : Pos} (hg : Gl X x) (hm : X.mg x = none) (hv : bootBuiltins x = some u) (r : RelV v u) (hn : x ≠ "__name__" := by decide) (hd : (x == ("__debug__" : Str)) = false := by decide) : PE X (.Name x pos) (tC v) :=
  fun _ _ _ H _ I h => ld_blt I hg hm hv ⟨v, H, I, r, h⟩ hn hd
variable {a b : Expr} {ta tb : TE} {pos : Pos}
def tB (t : TE) : TT := fun σ H Q => t σ H fun x H1 => ∃ c, x = .bl c ∧ Q c H1
theorem pt_val {e : Expr} {t : TE} (h : PE X e t) (he : ∀ whole, isTrue e X.env whole = (do let v ← whole; standAt e.pos; holding [v] (truthy v)) := by intro _; rfl) : PT X e (tB t) := by
  intro pins s σ H Q I hw
  refine isTrue_plain (thn (h pins s σ H _ I hw) fun v s1 ⟨x, H1, I1, r1, q1⟩ => ?_) (he _)
  obtain ⟨d, rfl, q⟩ := q1
  cases r1
  exact wpAny_truthy_bool ⟨H1, I1, q⟩
variable {tA tB' : TT} {rest : List Expr}
def tAnd (t u : TT) : TT := fun σ H Q => t σ H fun c H1 => if c = true then u σ H1 Q else Q false H1
def tOr (t u : TT) : TT := fun σ H Q => t σ H fun c H1 => if c = true then Q true H1 else u σ H1 Q
def tNot (t : TT) : TT := fun σ H Q => t σ H fun c H1 => Q (!c) H1
theorem pw_and1 (ha : PT X a tA) : PW X (.BoolOp .And [a] pos) tA := by
  intro wh pins s σ H Q I h
  refine isTrue_and (thn (ha pins s σ H Q I h) fun c s1 e => ?_)
  cases c with
  | true => exact isTrue_and_nil e
  | false => exact e
theorem pw_or1 (ha : PT X a tA) : PW X (.BoolOp .Or [a] pos) tA := by
  intro wh pins s σ H Q I h
  refine isTrue_or (thn (ha pins s σ H Q I h) fun c s1 e => ?_)
  cases c with
  | false => exact isTrue_or_nil e
  | true => exact e
theorem pw_and (ha : PT X a tA) (hb : PW X (.BoolOp .And (b :: rest) pos) tB') : PW X (.BoolOp .And (a :: b :: rest) pos) (tAnd tA tB') := by
  intro wh pins s σ H Q I h
  refine isTrue_and (thn (ha pins s σ H _ I h) fun c s1 ⟨H1, I1, q1⟩ => ?_)
  cases c with
  | true => exact hb wh pins s1 σ H1 Q I1 q1
  | false => exact ⟨H1, I1, q1⟩
theorem pw_or (ha : PT X a tA) (hb : PW X (.BoolOp .Or (b :: rest) pos) tB') : PW X (.BoolOp .Or (a :: b :: rest) pos) (tOr tA tB') := by
  intro wh pins s σ H Q I h
  refine isTrue_or (thn (ha pins s σ H _ I h) fun c s1 ⟨H1, I1, q1⟩ => ?_)
  cases c with
  | true => exact ⟨H1, I1, q1⟩
  | false => exact hb wh pins s1 σ H1 Q I1 q1
theorem pt_not (ha : PT X a tA) : PT X (.UnaryOp .Not a pos) (tNot tA) := by
  intro pins s σ H Q I h
  exact isTrue_not (ha pins s σ H (fun c H1 => Q (!c) H1) I h)
def tAndV (ta tb : TE) : TE := fun σ H Q => ta σ H fun x H1 => ∃ c, x = .bl c ∧ if c = true then tb σ H1 Q else Q (.bl false) H1
def tNotV (ta : TE) : TE := fun σ H Q => ta σ H fun x H1 => ∃ c, x = .bl c ∧ Q (.bl (!c)) H1
theorem pe_one {op} {t : TE} (h : PE X a t) : PE X (.BoolOp op [a] pos) t := fun pins s σ H Q I hw => BoolOp_one (h pins s σ H Q I hw)
theorem pe_and (ha : PE X a ta) (hb : PE X (.BoolOp .And (b :: rest) pos) tb) : PE X (.BoolOp .And (a :: b :: rest) pos) (tAndV ta tb) := by
  intro pins s σ H Q I h
  refine BoolOp_and (thn (ha pins s σ H _ I h) fun v s1 ⟨x, H1, I1, r1, q1⟩ => ?_)
  obtain ⟨c, rfl, q1⟩ := q1
  cases r1
  refine wpAny_truthy_bool ?_
  cases c with
  | true => exact hb pins s1 σ H1 Q I1 q1
  | false => exact ⟨.bl false, H1, I1, rfl, q1⟩
theorem pe_not (ha : PE X a ta) : PE X (.UnaryOp .Not a pos) (tNotV ta) := by
  intro pins s σ H Q I h
  refine UnaryOp_ (thn (ha pins s σ H _ I h) fun v s1 ⟨x, H1, I1, r1, q1⟩ => ?_)
  obtain ⟨c, rfl, q1⟩ := q1
  cases r1
  exact not_of (wpAny_truthy_bool ⟨.bl (!c), H1, I1, rfl, q1⟩)
def tIf (t : TT) (ta tb : TE) : TE := fun σ H Q => t σ H fun c H1 => if c = true then ta σ H1 Q else tb σ H1 Q
theorem pe_ifExp {c : Expr} (hc : PT X c tA) (ha : PE X a ta) (hb : PE X b tb) : PE X (.IfExp c a b pos) (tIf tA ta tb) := by
  intro pins s σ H Q I h
  refine wpAny_IfExp (thn (hc pins s σ H _ I h) fun d s1 ⟨H1, I1, q1⟩ => ?_)
  cases d with
  | true => exact ha pins s1 σ H1 Q I1 q1
  | false => exact hb pins s1 σ H1 Q I1 q1
end
end L2
namespace L2
open PySem PySem.Spec PyProof.Rows
def SqL (K : PySem.W.Frag) (H : Hp) (a : Addr) (xs : List V) : Prop :=
  Rd H a (.lst xs) ∨
    ∃ (o : Obj) (its : Array Value) (n : Nat), K.lookup a = some o ∧ o.cls = .type "list" ∧ o.dict = none ∧ o.data = .seq its n ∧ its.size ≤ sizeLine ∧ Vals xs its.toList
def SqT (K : PySem.W.Frag) (H : Hp) (a : Addr) (xs : List V) : Prop :=
  Rd H a (.tup xs) ∨
    ∃ (o : Obj) (its : Array Value) (n : Nat), K.lookup a = some o ∧ o.cls = .type "tuple" ∧ o.data = .seq its n ∧ its.size ≤ sizeLine ∧ Vals xs its.toList
def absV : Value → Option V
  | .none => some .non
  | .bool b => some (.bl b)
  | .int i _ => some (.int i)
  | .str x _ => some (.str x)
  | .bytes b _ => some (.byt b)
  | .float b _ => some (.flt b)
  | .ref a => some (.ref a)
  | .type n => some (.ty n)
  | _ => none
theorem RelV.abs {x : V} {u : Value} (r : RelV x u) : absV u = some x := by
  cases x with
  | non => cases r; rfl
  | bl _ => cases r; rfl
  | int _ => obtain ⟨t, rfl⟩ := r; rfl
  | str _ => obtain ⟨t, rfl⟩ := r; rfl
  | byt _ => obtain ⟨t, rfl⟩ := r; rfl
  | flt _ => obtain ⟨t, rfl⟩ := r; rfl
  | ref _ => cases r; rfl
  | ty _ => cases r; rfl
theorem RelV.inj {x y : V} {u : Value} (r : RelV x u) (q : RelV y u) : x = y := Option.some.inj (r.abs.symm.trans q.abs)
theorem Vals.inj : ∀ {xs ys : List V} {us : List Value}, Vals xs us → Vals ys us → xs = ys
  | _, _, _, .nil, .nil => rfl
  | _, _, _, .cons r t, .cons r' t' => by rw [r.inj r', Vals.inj t t']
section
variable {X : Cx} {pins : List (Addr × Obj)} {σ : St} {H : Hp} {s : Shared} {a : Addr} {xs ys : List V}
theorem SqL.of {K : PySem.W.Frag} (h : H a = some (.lst xs)) : SqL K H a xs := .inl (.inl h)
theorem SqT.of {K : PySem.W.Frag} (h : H a = some (.tup xs)) : SqT K H a xs := .inl (.inl h)
theorem Inv.list (I : Inv X pins σ H s) (h : SqL X.K H a xs) : ∃ its : List Value, Vals xs its ∧ PlainL s.heap a its.toArray ∧ xs.length ≤ sizeLine := by
  rcases h with h | ⟨o, its, n, hk, hc, hd, hs, hz, r⟩
  · obtain ⟨z, its, n, r, e⟩ := h.ok I.hok
    exact ⟨its, r, ⟨_, n, e, rfl, rfl, rfl⟩, z⟩
  · refine ⟨its.toList, r, ⟨o, n, I.kIn a o hk, hc, hd, by simpa using hs⟩, ?_⟩
    have e := r.length
    simp only [Array.length_toList] at e
    omega
theorem Inv.tuple (I : Inv X pins σ H s) (h : SqT X.K H a xs) : ∃ its : List Value, Vals xs its ∧ IsTup s.heap a its.toArray ∧ xs.length ≤ sizeLine := by
  rcases h with h | ⟨o, its, n, hk, hc, hs, hz, r⟩
  · obtain ⟨z, its, r, p⟩ := h.ok I.hok
    exact ⟨its, r, p, z⟩
  · refine ⟨its.toList, r, ⟨o, I.kIn a o hk, hc, n, by simpa using hs⟩, ?_⟩
    have e := r.length
    simp only [Array.length_toList] at e
    omega
theorem Inv.list_inj (I : Inv X pins σ H s) (h : SqL X.K H a xs) (h' : SqL X.K H a ys) : xs = ys := by
  obtain ⟨its, r, ⟨o, n, e, _, _, d⟩, _⟩ := I.list h
  obtain ⟨its', r', ⟨o', n', e', _, _, d'⟩, _⟩ := I.list h'
  rw [e] at e'; cases e'
  rw [d] at d'
  injection d' with d1 _
  have : its = its' := by simpa using congrArg Array.toList d1
  subst this
  exact r.inj r'
theorem Inv.tuple_inj (I : Inv X pins σ H s) (h : SqT X.K H a xs) (h' : SqT X.K H a ys) : xs = ys := by
  obtain ⟨its, r, ⟨o, e, _, n, d⟩, _⟩ := I.tuple h
  obtain ⟨its', r', ⟨o', e', _, n', d'⟩, _⟩ := I.tuple h'
  rw [e] at e'; cases e'
  rw [d] at d'
  injection d' with d1 _
  have : its = its' := by simpa using congrArg Array.toList d1
  subst this
  exact r.inj r'
end
abbrev Cx.wish (X : Cx) (E : Value → Shared → Prop) : Cx := { X with xe := E }
abbrev Cx.nox (X : Cx) : Cx := X.wish fun _ _ => False
theorem Cx.Ok.wish {X : Cx} (ok : X.Ok) (E : Value → Shared → Prop) : (X.wish E).Ok :=
  ⟨ok.mod, ok.kind, ok.glob, ok.blt, ok.above, ok.inj, ok.has, ok.cab, ok.hd, ok.frames, ok.stk, ok.exf, ok.bs, ok.bsz, ok.noex, ok.exfs, ok.funs, ok.frf⟩
theorem Cx.Ok.unwish {X : Cx} {E : Value → Shared → Prop} (ok : (X.wish E).Ok) : X.Ok :=
  ⟨ok.mod, ok.kind, ok.glob, ok.blt, ok.above, ok.inj, ok.has, ok.cab, ok.hd, ok.frames, ok.stk, ok.exf, ok.bs, ok.bsz, ok.noex, ok.exfs, ok.funs, ok.frf⟩
section
variable {X : Cx} {pins : List (Addr × Obj)} {σ : St} {H : Hp} {s : Shared} {E : Value → Shared → Prop}
theorem Inv.wish (I : Inv X pins σ H s) (E : Value → Shared → Prop) : Inv (X.wish E) pins σ H s := ⟨I.ok.wish E, I.os, I.bare, I.base, I.loc, I.cell, I.free, I.freeC, I.pin, I.hok, I.len⟩
theorem Inv.unwish (I : Inv (X.wish E) pins σ H s) : Inv X pins σ H s := ⟨I.ok.unwish, I.os, I.bare, I.base, I.loc, I.cell, I.free, I.freeC, I.pin, I.hok, I.len⟩
theorem SP.unwish {D : Ends} {f : Flow} {s' : Shared} (h : SP (X.wish E) pins D f s') : SP X pins D f s' := by
  cases f with
  | next => obtain ⟨σ', H', I, q⟩ := h; exact ⟨σ', H', I.unwish, q⟩
  | brk => obtain ⟨σ', H', I, q⟩ := h; exact ⟨σ', H', I.unwish, q⟩
  | cont => obtain ⟨σ', H', I, q⟩ := h; exact ⟨σ', H', I.unwish, q⟩
  | ret u => obtain ⟨v, σ', H', I, r, q⟩ := h; exact ⟨v, σ', H', I.unwish, r, q⟩
theorem PSs.nox {st : List Stmt} {t : TS} (h : PSs X.nox st t) : PSs X st t := fun pins s σ H D I hw =>
  wpAny_mono (h pins s σ H D (I.wish _) hw) (fun _ _ q => q.unwish) fun _ _ z => False.elim z
end
section
variable {X : Cx} {st : Stmt} {rest : List Stmt} {t u : TS} {e : Expr} {te : TE} {pos : Pos}
def tNext : TS := fun D σ H => D.nx σ H
def tSeq (t u : TS) : TS := fun D σ H => t { D with nx := u D } σ H
theorem pss_nil : PSs X [] tNext := fun _ _ σ H _ I h => wpAny_execs_nil ⟨σ, H, I, h⟩
theorem pss_cons (h1 : PS X st t) (h2 : PSs X rest u) : PSs X (st :: rest) (tSeq t u) := by
  intro pins s σ H D I h
  refine wpAny_execs_cons (thn (h1 pins s σ H { D with nx := u D } I h) fun f s1 q => ?_)
  cases f with
  | next =>
    obtain ⟨σ', H', I', q⟩ := q
    exact h2 pins s1 σ' H' D I' q
  | ret v => exact q
  | brk => exact q
  | cont => exact q
theorem pss_one (h1 : PS X st t) : PSs X [st] t := by
  intro pins s σ H D I h
  refine wpAny_execs_cons (thn (h1 pins s σ H D I h) fun f s1 q => ?_)
  cases f with
  | next => exact wpAny_execs_nil q
  | ret v => exact q
  | brk => exact q
  | cont => exact q
theorem Inv.quiet {pins : List (Addr × Obj)} {σ : St} {H : Hp} {s : Shared} (I : Inv X pins σ H s) : interactive X.env = false := by simp [interactive, I.ok.kind]
def tDrop (te : TE) : TS := fun D σ H => te σ H fun _ H1 => D.nx σ H1
theorem ps_expr (he : PE X e te) (hs : swapsWith e none pos.line X.env = pure false := by rfl) : PS X (.Expr e pos) (tDrop te) := by
  intro pins s σ H D I h
  exact wpAny_Expr_any (thn (he pins s σ H _ I h) fun v s1 ⟨x, H1, I1, r1, q1⟩ => ⟨σ, H1, I1, q1⟩) I.quiet hs
def tRet (te : TE) : TS := fun D σ H => te σ H D.rt
theorem ps_ret (he : PE X e te) : PS X (.Return (some e) pos) (tRet te) := by
  intro pins s σ H D I h
  exact wpAny_Return_some (thn (he pins s σ H _ I h) fun v s1 ⟨x, H1, I1, r1, q1⟩ => ⟨x, σ, H1, I1, r1, q1⟩)
def tIfS (c : TT) (t u : TS) : TS := fun D σ H => c σ H fun b H1 => if b = true then t D σ H1 else u D σ H1
theorem ps_if {c : Expr} {a b : List Stmt} {tc : TT} (hc : PT X c tc) (ha : PSs X a t) (hb : PSs X b u) : PS X (.If c a b pos) (tIfS tc t u) := by
  intro pins s σ H D I h
  refine wpAny_If (thn (hc pins s σ H _ I h) fun d s1 ⟨H1, I1, q1⟩ => ?_)
  cases d with
  | true => exact ha pins s1 σ H1 D I1 q1
  | false => exact hb pins s1 σ H1 D I1 q1
end
abbrev TG := V → St → Hp → (St → Hp → Prop) → Prop
abbrev TGs := List V → St → Hp → (St → Hp → Prop) → Prop
def PG (X : Cx) (target : Expr) (t : TG) : Prop :=
  ∀ (pins : List (Addr × Obj)) (s : Shared) (σ : St) (H : Hp) (v : V) (u : Value) (Q : St → Hp → Prop), Inv X pins σ H s → RelV v u → t v σ H Q →
    wpAny (model X.prog X.w) X.A (assign target X.env u) (fun _ s' => ∃ σ' H', Inv X pins σ' H' s' ∧ Q σ' H') X.xe s
def PGs (X : Cx) (ts : List Expr) (t : TGs) : Prop :=
  ∀ (pins : List (Addr × Obj)) (s : Shared) (σ : St) (H : Hp) (vs : List V) (us : List Value) (Q : St → Hp → Prop), Inv X pins σ H s → Vals vs us → t vs σ H Q →
    wpAny (model X.prog X.w) X.A (assignInOrder ((assignEach ts X.env).map (·.2)) us) (fun _ s' => ∃ σ' H', Inv X pins σ' H' s' ∧ Q σ' H') X.xe s
abbrev TSet := V → V → V → Hp → (Hp → Prop) → Prop
def PSet (X : Cx) (t : TSet) : Prop :=
  ∀ (pins : List (Addr × Obj)) (s : Shared) (σ : St) (H : Hp) (o i v : V) (ov iv u : Value) (Q : Hp → Prop), Inv X pins σ H s → RelV o ov → RelV i iv → RelV v u → t o i v H Q →
    wpAny (model X.prog X.w) X.A (setItem ov iv u) (fun _ s' => ∃ H', Inv X pins σ H' s' ∧ Q H') X.xe s
section
variable {X : Cx} {pos : Pos}
def gName (i : Nat) : TG := fun v σ H Q => Q (σ.set i (some v)) H
theorem pg_name {i : Nat} {x : Str} (hN : X.N.Nodup) (hi : X.N[i]? = some x) (hx : Loc X.env.scope x) (hf : X.fn x = true ∨ X.env.scope.names.lookup x = some .local := by first | exact .inl rfl | exact .inr rfl | assumption) : PG X (.Name x pos) (gName i) := by
  intro pins s σ H v u Q I r h
  exact wpAny_assign_Name (store_ok I hN hi hx r (fun s' I' => ⟨_, H, I', h⟩) hf)
def gNil : TGs := fun vs σ H Q => vs = [] ∧ Q σ H
def gCons (t : TG) (u : TGs) : TGs := fun vs σ H Q => ∃ v r, vs = v :: r ∧ t v σ H fun σ' H' => u r σ' H' Q
theorem pgs_nil : PGs X [] gNil := by
  intro pins s σ H vs us Q I r h
  obtain ⟨e, h⟩ := h
  subst e
  cases r
  exact assignInOrder_nil ⟨σ, H, I, h⟩
theorem pgs_cons {e : Expr} {es : List Expr} {t : TG} {u : TGs} (h1 : PG X e t) (h2 : PGs X es u)
    (hs : (assignEach (e :: es) X.env).map (·.2) = assign e X.env :: (assignEach es X.env).map (·.2) := by rfl) : PGs X (e :: es) (gCons t u) := by
  intro pins s σ H vs us Q I r h
  obtain ⟨v, vr, e1, h⟩ := h
  subst e1
  cases r with
  | cons r rr =>
    rw [hs]
    refine assignInOrder_cons (thn (h1 pins s σ H _ _ _ I r h) fun _ s1 ⟨σ1, H1, I1, q1⟩ => ?_)
    exact h2 pins s1 σ1 H1 _ _ Q I1 rr q1
def gTup (K : PySem.W.Frag) (n : Nat) (t : TGs) : TG := fun v σ H Q => ∃ a xs, v = .ref a ∧ SqT K H a xs ∧ xs.length = n ∧ t xs σ H Q
theorem pg_tup {es : List Expr} {k : Nat} {t : TGs} {n : Nat} (hc : X.calm = true) (h : PGs X es t)
    (hn : (assignEach es X.env).length = n := by rfl) (hst : (assignEach es X.env).findIdx? (·.1) = none := by rfl) : PG X (.Tuple es k pos) (gTup X.K n t) := by
  intro pins s σ H v u Q I r hw
  obtain ⟨a, xs, e1, hq, hl, hw⟩ := hw
  subst e1
  cases r
  obtain ⟨its, rv, ht, hz⟩ := I.tuple hq
  refine assign_Tuple_tuple (I.ok.hd hc) ht (by simp [hn, ← hl, rv.length]) hst fun h' hx => ?_
  have I1 : Inv X pins σ H { s with heap := h' } := I.kept (t' := s.toks) fun b o e => hx b o (Nat.ne_of_lt (Heap.lt_size e)) e
  exact h pins _ σ H xs _ Q I1 (by simpa using rv) hw
def gSub (to ti : TE) (t : TSet) : TG := fun v σ H Q => to σ H fun o H1 => ti σ H1 fun i H2 => t o i v H2 fun H3 => Q σ H3
theorem pg_sub {o i : Expr} {to ti : TE} {t : TSet} (ho : PE X o to) (hi : PE X i ti) (hs : PSet X t)
    (ha : ∀ v, assign (.Subscript o i pos) X.env v = (do
      let ov ← holding [v] (eval o X.env)
      let iv ← holding [v, ov] (eval i X.env)
      standAt pos
      holding [v, ov, iv] (setItem ov iv v)
      release [v, ov, iv] []) := by intro _; rfl) : PG X (.Subscript o i pos) (gSub to ti t) := by
  intro pins s σ H v u Q I r h
  rw [ha]
  refine wpAny_bind (wpAny_holding (thn (ho pins s σ H _ I h) fun ov s1 ⟨x, H1, I1, r1, q1⟩ => ?_))
  refine wpAny_bind (wpAny_holding (thn (hi pins s1 σ H1 _ I1 q1) fun iv s2 ⟨y, H2, I2, r2, q2⟩ => ?_))
  refine wpAny_bind (wpAny_standAt (wpAny_bind (wpAny_holding (thn (hs pins s2 σ H2 x y v ov iv u _ I2 r1 r2 r q2) fun _ s3 ⟨H3, I3, q3⟩ => ?_))))
  exact wpAny_release ⟨σ, H3, I3, q3⟩
def tAsg (te : TE) (g : TG) : TS := fun D σ H => te σ H fun x H1 => g x σ H1 D.nx
theorem ps_asg {tg e : Expr} {te : TE} {g : TG} (he : PE X e te) (hg : PG X tg g) (hs : swapsWithSole [tg] e pos.line X.env = pure false := by rfl) (hw : swappedStores [tg] e X.env = pure none := by rfl)
    (h1 : (assignEach [tg] X.env).map (·.2) = [assign tg X.env] := by rfl) : PS X (.Assign [tg] e pos) (tAsg te g) := by
  intro pins s σ H D I h
  refine wpAny_Assign_stores (thn (he pins s σ H _ I h) fun v s1 ⟨x, H1, I1, r1, q1⟩ => ?_) hs hw
  rw [h1]
  exact thn (hg pins s1 σ H1 x v _ I1 r1 q1) fun _ s2 q => q
theorem ps_set {i : Nat} {x : Str} {e : Expr} {te : TE} {pos' : Pos} (hN : X.N.Nodup) (hi : X.N[i]? = some x) (hx : Loc X.env.scope x) (he : PE X e te) (hs : swapsWith e (some (.Name x pos')) pos.line X.env = pure false := by rfl) (hf : X.fn x = true ∨ X.env.scope.names.lookup x = some .local := by first | exact .inl rfl | exact .inr rfl | assumption) :
    PS X (.Assign [.Name x pos'] e pos) (tAsg te (gName i)) := by
  intro pins s σ H D I h
  refine wpAny_Assign_Name (thn (he pins s σ H _ I h) fun v s1 ⟨y, H1, I1, r1, q1⟩ => ?_) hs
  exact store_ok I1 hN hi hx r1 (fun s2 I2 => ⟨_, H1, I2, q1⟩) hf
end
section
variable {X : Cx} {pos : Pos}
def tWhile (c : TT) (tb : TS) : TS := fun D σ H => ∃ W : Nat → St → Hp → Prop, (∃ m, W m σ H) ∧ ∀ m σ H, W m σ H →
  c σ H fun b H1 => if b = true then ∃ N : St → Hp → Prop, (∀ σ' H', N σ' H' → ∃ m', m' < m ∧ W m' σ' H') ∧ tb { D with nx := N, ct := N, bk := D.nx } σ H1 else D.nx σ H1
theorem ps_while {c : Expr} {body : List Stmt} {tc : TT} {tb : TS} (hp : PassesOwn (model X.prog X.w) X.A X.env X.xe) (hc : PT X c tc) (hb : PSs X body tb) : PS X (.While c body [] pos) (tWhile tc tb) := by
  intro pins s σ H D I h
  obtain ⟨W, ⟨m0, w0⟩, turn⟩ := h
  refine wpAny_While (codeAny_whileLoop (fun n s' => ∃ σ' H', Inv X pins σ' H' s' ∧ W n σ' H') ?_ m0 ⟨σ, H, I, w0⟩)
  rintro n s1 ⟨σ1, H1, I1, w1⟩
  refine wpAny_passesOwn hp (thn (hc pins s1 σ1 H1 _ I1 (turn n σ1 H1 w1)) fun b s2 ⟨H2, I2, q2⟩ => ?_)
  cases b with
  | true =>
    obtain ⟨N, hN, q2⟩ := q2
    rw [if_pos rfl]
    refine wpAny_passesOwn hp (thn (hb pins s2 σ1 H2 _ I2 q2) fun f s3 q3 => ?_)
    cases f with
    | next =>
      obtain ⟨σ3, H3, I3, n3⟩ := q3
      obtain ⟨m', hm, w3⟩ := hN σ3 H3 n3
      exact ⟨m', hm, σ3, H3, I3, w3⟩
    | cont =>
      obtain ⟨σ3, H3, I3, n3⟩ := q3
      obtain ⟨m', hm, w3⟩ := hN σ3 H3 n3
      exact ⟨m', hm, σ3, H3, I3, w3⟩
    | brk => exact q3
    | ret v => exact q3
  | false =>
    rw [if_neg Bool.false_ne_true]
    exact wpAny_execs_nil ⟨σ1, H2, I2, q2⟩
end
structure It where
  go : Nat → Hp → Prop
  yld : Nat → Hp → V → Hp → Prop
  stop : Nat → Hp → Prop
def FpOk (X : Cx) (pins : List (Addr × Obj)) (H : Hp) (b : Addr) : Prop :=
  H b = none ∧ b ≠ X.env.locals ∧ b ∉ X.fs ∧ (b ∈ X.ex ∨ X.s₀.heap.objs.size ≤ b) ∧ (∀ x c, X.env.cells.lookup x = some c → c ≠ b) ∧ ∀ p ∈ X.pn ++ pins, p.1 ≠ b
theorem Inv.fpOk {X : Cx} {pins : List (Addr × Obj)} {σ : St} {H H' : Hp} {s : Shared} {b : Addr} (I : Inv X pins σ H s) (hb : s.heap.objs.size ≤ b) (hn : H' b = none) : FpOk X pins H' b := by
  refine ⟨hn, Nat.ne_of_gt (Nat.lt_of_lt_of_le I.lt hb), I.nofs hb, .inr (Nat.le_trans I.sz hb), fun x c e z => ?_, fun p hp z => ?_⟩
  · obtain ⟨v, q⟩ := I.cell x c e
    exact absurd (Nat.lt_of_lt_of_le q.lt (by rw [z]; exact hb)) (Nat.lt_irrefl _)
  · exact absurd (Nat.lt_of_lt_of_le (Heap.lt_size (I.pin p hp).1) (by rw [z]; exact hb)) (Nat.lt_irrefl _)
structure Turn (P : Program) (w : World) (K : PySem.W.Frag) (tg : Expr) (J : It) (fp : List Addr) (it : Addr) (tn : Nat → Heap → Prop) : Prop where
  mem : it ∈ fp
  obj : ∀ i h, tn i h → ∀ b ∈ fp, ∃ o, h.get? b = some o ∧ ∀ v, o.data ≠ .cell v
  keep : ∀ i h h', tn i h → (∀ b ∈ fp, ∀ o, h.get? b = some o → h'.get? b = some o) → tn i h'
  item : ∀ (X : Cx), X.prog = P → X.w = w → X.K = K → X.calm = true → ∀ (i : Nat) (pins : List (Addr × Obj)) (s : Shared) (σ : St) (H : Hp) (E : Value → Shared → Prop), Inv X pins σ H s → (∀ b ∈ fp, FpOk X pins H b) → tn i s.heap → J.go i H →
    wpAny (model P w) X.A (pyNext (.ref it)) (fun r s1 => ∃ u, r = some u ∧
      wpAny (model P w) X.A (letOwnedTupleGo tg (.ref it) u) (fun _ s2 => ∃ x H', Inv X pins σ H' s2 ∧ RelV x u ∧ J.yld i H x H' ∧ tn (i + 1) s2.heap ∧ ∀ b ∈ fp, H' b = none) E s1) E s
  done : ∀ (X : Cx), X.prog = P → X.w = w → X.K = K → X.calm = true → ∀ (i : Nat) (pins : List (Addr × Obj)) (s : Shared) (σ : St) (H : Hp) (E : Value → Shared → Prop), Inv X pins σ H s → (∀ b ∈ fp, FpOk X pins H b) → tn i s.heap → J.stop i H →
    wpAny (model P w) X.A (pyNext (.ref it)) (fun r s1 => r = none ∧ Inv X pins σ H s1) E s
  self : ∀ (A : Around) (i : Nat) (s : Shared) (Q : Value → Shared → Prop) (E : Value → Shared → Prop), tn i s.heap → Q (.ref it) s → wpAny (model P w) A (pyIter (.ref it)) Q E s
abbrev TI := St → Hp → (It → Hp → Prop) → Prop
def PIE (X : Cx) (pins : List (Addr × Obj)) (σ : St) (tg : Expr) (R : It → Hp → Prop) (itv : Value) (s2 : Shared) : Prop :=
  ∃ (it : Addr) (fp : List Addr) (tn : Nat → Heap → Prop) (J : It) (H' : Hp), itv = .ref it ∧ Inv X pins σ H' s2 ∧ Turn X.prog X.w X.K tg J fp it tn ∧ tn 0 s2.heap ∧ (∀ b ∈ fp, FpOk X pins H' b) ∧ R J H'
def PI (X : Cx) (tg iter : Expr) (wi : TI) : Prop :=
  ∀ (pins : List (Addr × Obj)) (s : Shared) (σ : St) (H : Hp) (R : It → Hp → Prop), Inv X pins σ H s → wi σ H R →
    wpAny (model X.prog X.w) X.A (eval iter X.env) (fun v s1 => wpAny (model X.prog X.w) X.A (pyIter v) (PIE X pins σ tg R) X.xe s1) X.xe s
theorem go_of {M : Model} {A : Around} {E : Value → Shared → Prop} {s : Shared} {tg : Expr} {it : Addr} {u : Value} {o : Obj} {n : String} {vs : Array Value} {Q : Unit → Shared → Prop} (ho : s.heap.get? it = some o) (hc : o.cls = .type n) (hd : o.data = .fields vs)
    (hn : ["enumerate", "zip", "dict_itemiterator", "dict_reverseitemiterator", "odict_iterator", "itertools.zip_longest", "itertools.pairwise"].contains n = false) (hQ : Q () s) : wpAny M A (letOwnedTupleGo tg (.ref it) u) Q E s := by
  unfold letOwnedTupleGo
  cases tg <;> first
    | exact wpAny_pure hQ
    | (cases u <;> first
        | exact wpAny_pure hQ
        | (refine wpAny_bind (wpAny_load ho ?_)
           rw [hc, hd]
           show wpAny M A (if (["enumerate", "zip", "dict_itemiterator", "dict_reverseitemiterator", "odict_iterator", "itertools.zip_longest", "itertools.pairwise"].contains n && vs[0]? == some (rawInt _)) = true then _ else _) Q E s
           rw [if_neg (by intro h; rw [hn, Bool.false_and] at h; cases h)]
           exact wpAny_pure hQ))
def Itl (K : PySem.W.Frag) (a : Addr) : It :=
  ⟨fun i H => ∃ xs x, SqL K H a xs ∧ xs[i]? = some x, fun i H x H' => H' = H ∧ ∀ xs, SqL K H a xs → xs[i]? = some x, fun i H => ∃ xs, SqL K H a xs ∧ xs.length ≤ i⟩
def Itt (K : PySem.W.Frag) (a : Addr) : It :=
  ⟨fun i H => ∃ xs x, SqT K H a xs ∧ xs[i]? = some x, fun i H x H' => H' = H ∧ ∀ xs, SqT K H a xs → xs[i]? = some x, fun i H => ∃ xs, SqT K H a xs ∧ xs.length ≤ i⟩
def Itr (lo : Int) (n : Nat) : It := ⟨fun i _ => i < n, fun i H x H' => H' = H ∧ x = .int (lo + i), fun i _ => n ≤ i⟩
theorem turn_list {P : Program} {w : World} {K : PySem.W.Frag} {tg : Expr} (a it : Addr) : Turn P w K tg (Itl K a) [it] it (fun i h => h.IsListIter it a i) where
  mem := by simp
  obj := fun i h st b hb => by
    have e : b = it := by simpa using hb
    subst e
    obtain ⟨o, e, c, d⟩ := st
    exact ⟨o, e, fun v z => by rw [d] at z; cases z⟩
  keep := fun i h h' st k => st.at fun o e => k it (by simp) o e
  item := by
    intro X hP hw hK hc i pins s σ H E I hf st hg
    subst hP hw hK
    obtain ⟨xs, x, hq, hx⟩ := hg
    obtain ⟨its, rv, p, hz⟩ := I.list hq
    obtain ⟨u, hu, ru⟩ := rv.get hx
    obtain ⟨f0, f1, f2, f3, f4, f5⟩ := hf it (by simp)
    refine wpAny_pyNext_list_item st p.isList (x := u) (by simpa using hu) fun h' st' sb => ?_
    have I1 : Inv X pins σ H { s with heap := h' } := I.turned (t' := s.toks) (fun b o hb e => (sb.2 b hb).trans e) f0 f1 f3 f4 f5
    obtain ⟨o, e, c, d⟩ := id st'
    exact ⟨u, rfl, go_of (s := { s with heap := h' }) e c d (by decide) ⟨x, H, I1, ru, ⟨rfl, fun ys hy => by rw [I.list_inj hy hq]; exact hx⟩, st', fun b hb => (hf b hb).1⟩⟩
  done := by
    intro X hP hw hK hc i pins s σ H E I hf st hg
    subst hP hw hK
    obtain ⟨xs, hq, hx⟩ := hg
    obtain ⟨its, rv, p, hz⟩ := I.list hq
    obtain ⟨f0, f1, f2, f3, f4, f5⟩ := hf it (by simp)
    have hl := rv.length
    exact wpAny_pyNext_list_end (I.ok.hd hc) st p.isList (by simp; omega) fun h' eb => ⟨rfl, I.turned (t' := s.toks) (fun b o hb e => eb b o hb e) f0 f1 f3 f4 f5⟩
  self := fun _ _ _ _ _ st h => wpAny_pyIter_listiter st h
theorem turn_tuple {P : Program} {w : World} {K : PySem.W.Frag} {tg : Expr} (a it : Addr) : Turn P w K tg (Itt K a) [it] it (fun i h => h.IsTupleIter it a i) where
  mem := by simp
  obj := fun i h st b hb => by
    have e : b = it := by simpa using hb
    subst e
    obtain ⟨o, e, c, d⟩ := st
    exact ⟨o, e, fun v z => by rw [d] at z; cases z⟩
  keep := fun i h h' st k => st.at fun o e => k it (by simp) o e
  item := by
    intro X hP hw hK hc i pins s σ H E I hf st hg
    subst hP hw hK
    obtain ⟨xs, x, hq, hx⟩ := hg
    obtain ⟨its, rv, p, hz⟩ := I.tuple hq
    obtain ⟨u, hu, ru⟩ := rv.get hx
    obtain ⟨f0, f1, f2, f3, f4, f5⟩ := hf it (by simp)
    refine wpAny_pyNext_tuple_item st (show s.heap.IsTuple a its.toArray from p) (x := u) (by simpa using hu) fun h' st' sb => ?_
    have I1 : Inv X pins σ H { s with heap := h' } := I.turned (t' := s.toks) (fun b o hb e => (sb.2 b hb).trans e) f0 f1 f3 f4 f5
    obtain ⟨o, e, c, d⟩ := id st'
    exact ⟨u, rfl, go_of (s := { s with heap := h' }) e c d (by decide) ⟨x, H, I1, ru, ⟨rfl, fun ys hy => by rw [I.tuple_inj hy hq]; exact hx⟩, st', fun b hb => (hf b hb).1⟩⟩
  done := by
    intro X hP hw hK hc i pins s σ H E I hf st hg
    subst hP hw hK
    obtain ⟨xs, hq, hx⟩ := hg
    obtain ⟨its, rv, p, hz⟩ := I.tuple hq
    obtain ⟨f0, f1, f2, f3, f4, f5⟩ := hf it (by simp)
    have hl := rv.length
    exact wpAny_pyNext_tuple_end (I.ok.hd hc) st (show s.heap.IsTuple a its.toArray from p) (by simp; omega) fun h' eb => ⟨rfl, I.turned (t' := s.toks) (fun b o hb e => eb b o hb e) f0 f1 f3 f4 f5⟩
  self := fun _ _ _ _ _ st h => wpAny_pyIter_tupleiter st h
theorem turn_range {P : Program} {w : World} {K : PySem.W.Frag} {tg : Expr} (it : Addr) (lo : Int) (n : Nat) : Turn P w K tg (Itr lo n) [it] it (fun i h => IsRangeIter h it (lo + (i : Nat) * 1) ((n : Int) - (i : Nat)) 1) where
  mem := by simp
  obj := fun i h st b hb => by
    have e : b = it := by simpa using hb
    subst e
    exact ⟨_, st, fun v z => by
      have z' : Data.fields _ = Data.cell v := z
      cases z'⟩
  keep := fun i h h' st k => k it (by simp) _ st
  item := by
    intro X hP hw hK hc i pins s σ H E I hf st hg
    subst hP hw hK
    obtain ⟨f0, f1, f2, f3, f4, f5⟩ := hf it (by simp)
    have W := Walks.range (prog := X.prog) (w := X.w) (I.ok.hd hc) it lo 1 n
    refine W.item i s _ _ hg st fun v h' tk hv st' kk => ?_
    obtain ⟨t, rfl⟩ := hv
    have I1 : Inv X pins σ H { s with heap := h', toks := tk } := I.turned (fun b o hb e => kk b o (by simpa using hb) e) f0 f1 f3 f4 f5
    refine ⟨_, rfl, go_of (s := { s with heap := h', toks := tk }) (n := "range_iterator") st' rfl rfl (by decide) ⟨.int (lo + i), H, I1, ⟨t, ?_⟩, ⟨rfl, rfl⟩, st', fun b hb => (hf b hb).1⟩⟩
    rw [Int.mul_one]
  done := by
    intro X hP hw hK hc i pins s σ H E I hf st hg
    subst hP hw hK
    obtain ⟨f0, f1, f2, f3, f4, f5⟩ := hf it (by simp)
    exact wpAny_pyNext_range_end (I.ok.hd hc) st (by have : n ≤ i := hg; omega) fun h' eb => ⟨rfl, I.turned (t' := s.toks) (fun b o hb e => eb b o hb e) f0 f1 f3 f4 f5⟩
  self := fun _ _ _ _ _ st h => wpAny_pyIter_rangeiter st h
end L2
namespace L2
open PySem PySem.Spec PyProof.Rows
section
variable {X : Cx} {tg : Expr}
def iList (K : PySem.W.Frag) (tl : TE) : TI := fun σ H R => tl σ H fun x H1 => ∃ a, x = .ref a ∧ (∃ xs, SqL K H1 a xs) ∧ R (Itl K a) H1
def iTup (K : PySem.W.Frag) (tl : TE) : TI := fun σ H R => tl σ H fun x H1 => ∃ a, x = .ref a ∧ (∃ xs, SqT K H1 a xs) ∧ R (Itt K a) H1
theorem pi_list {l : Expr} {tl : TE} (hl : PE X l tl) : PI X tg l (iList X.K tl) := by
  intro pins s σ H R I h
  refine thn (hl pins s σ H _ I h) fun v s1 ⟨x, H1, I1, r1, q1⟩ => ?_
  obtain ⟨a, e, ⟨xs, hq⟩, q⟩ := q1
  subst e
  cases r1
  obtain ⟨its, rv, p, hz⟩ := I1.list hq
  refine wpAny_pyIter_list p.isList ?_
  refine ⟨s1.heap.objs.size, [s1.heap.objs.size], _, _, H1, rfl, I1.kept (t' := s1.toks) fun b o e => Heap.get?_push_of_some _ e, turn_list a _, ⟨_, Heap.get?_push_size _ rfl, rfl, rfl⟩, fun b hb => ?_, q⟩
  have e : b = s1.heap.objs.size := by simpa using hb
  subst e
  exact I1.fpOk (Nat.le_refl _) (I1.hok.fresh (Nat.le_refl _))
theorem pi_tup {l : Expr} {tl : TE} (hl : PE X l tl) : PI X tg l (iTup X.K tl) := by
  intro pins s σ H R I h
  refine thn (hl pins s σ H _ I h) fun v s1 ⟨x, H1, I1, r1, q1⟩ => ?_
  obtain ⟨a, e, ⟨xs, hq⟩, q⟩ := q1
  subst e
  cases r1
  obtain ⟨its, rv, p, hz⟩ := I1.tuple hq
  refine wpAny_pyIter_tuple (show s1.heap.IsTuple a its.toArray from p) ?_
  refine ⟨s1.heap.objs.size, [s1.heap.objs.size], _, _, H1, rfl, I1.kept (t' := s1.toks) fun b o e => Heap.get?_push_of_some _ e, turn_tuple a _, ⟨_, Heap.get?_push_size _ rfl, rfl, rfl⟩, fun b hb => ?_, q⟩
  have e : b = s1.heap.objs.size := by simpa using hb
  subst e
  exact I1.fpOk (Nat.le_refl _) (I1.hok.fresh (Nat.le_refl _))
theorem range_it {pins : List (Addr × Obj)} {σ : St} {H : Hp} {s : Shared} {R : It → Hp → Prop} {E : Value → Shared → Prop} {lo hi : Int} {t u v : Tok} {tk : Nat} (I : Inv X pins σ H s) (h1 : -(2 ^ 62) ≤ lo) (h2 : lo < 2 ^ 62) (h3 : -(2 ^ 62) ≤ hi) (h4 : hi < 2 ^ 62)
    (q : R (Itr lo (hi - lo).toNat) H) : wpAny (model X.prog X.w) X.A (pyIter (.ref s.heap.objs.size)) (PIE X pins σ tg R) E { s with heap := s.heap.push { cls := .type "range", data := .fields #[.int lo t, .int hi u, .int 1 v] }, toks := tk } := by
  refine wpAny_pyIter_range (IsRange.new ..) (small_one h1 h2 h3 h4) ?_
  have I1 : Inv X pins σ H { s with heap := s.heap.push { cls := .type "range", data := .fields #[.int lo t, .int hi u, .int 1 v] }, toks := tk } := I.kept fun b o e => Heap.get?_push_of_some _ e
  refine ⟨(s.heap.push { cls := .type "range", data := .fields #[.int lo t, .int hi u, .int 1 v] }).objs.size, [(s.heap.push { cls := .type "range", data := .fields #[.int lo t, .int hi u, .int 1 v] }).objs.size], _, _, H, rfl,
    I1.kept (t' := tk) fun b o e => Heap.get?_push_of_some _ e, turn_range _ lo (hi - lo).toNat, ?_, fun b hb => ?_, q⟩
  · have e1 : lo + ((0 : Nat) : Int) * 1 = lo := by simp
    have e2 : (((hi - lo).toNat : Nat) : Int) - ((0 : Nat) : Int) = Builtin.Range.rangeSize lo hi 1 := by rw [rangeSize_one]; split <;> omega
    show IsRangeIter _ _ (lo + ((0 : Nat) : Int) * 1) ((((hi - lo).toNat : Nat) : Int) - ((0 : Nat) : Int)) 1
    rw [e1, e2]
    exact Heap.get?_push_size _ rfl
  · have e : b = (s.heap.push { cls := .type "range", data := .fields #[.int lo t, .int hi u, .int 1 v] }).objs.size := by simpa using hb
    subst e
    exact I1.fpOk (Nat.le_refl _) (I1.hok.fresh (Nat.le_refl _))
def iRng1 (ta : TA) : TI := fun σ H R => ta σ H fun vs H1 => ∃ j : Int, vs = [.int j] ∧ -(2 ^ 62) ≤ j ∧ j < 2 ^ 62 ∧ R (Itr 0 j.toNat) H1
def iRng2 (ta : TA) : TI := fun σ H R => ta σ H fun vs H1 => ∃ i j : Int, vs = [.int i, .int j] ∧ (-(2 ^ 62) ≤ i ∧ i < 2 ^ 62 ∧ -(2 ^ 62) ≤ j ∧ j < 2 ^ 62) ∧ R (Itr i (j - i).toNat) H1
theorem pi_range1 {a : Expr} {ta : TA} {p pos : Pos} (hg : Gl X "range") (hm : X.mg "range" = none) (ha : PA X [a] ta) (hs : starEach [a] X.env = [(false, eval a X.env)] := by rfl) : PI X tg (.Call (.Name "range" p) [a] [] pos) (iRng1 ta) := by
  intro pins s σ H R I h
  refine Call_ (ld_blt I hg hm boot_range (PyProof.Rows.callWith_type1 (thn (ha pos pins s σ H _ I h) fun us s1 ⟨vs, H1, I1, r1, q1⟩ => ?_) hs rfl))
  obtain ⟨j, e, q1, q2, q⟩ := q1
  subst e
  cases r1 with
  | cons r rr =>
    cases rr
    obtain ⟨t, rfl⟩ := r
    exact call_range_1 (range_it I1 (by omega) (by omega) q1 q2 (by simpa using q))
theorem pi_range2 {a b : Expr} {ta : TA} {p pos : Pos} (hg : Gl X "range") (hm : X.mg "range" = none) (ha : PA X [a, b] ta) (hs : starEach [a, b] X.env = [(false, eval a X.env), (false, eval b X.env)] := by rfl) (hs2 : starEach [b] X.env = [(false, eval b X.env)] := by rfl) :
    PI X tg (.Call (.Name "range" p) [a, b] [] pos) (iRng2 ta) := by
  intro pins s σ H R I h
  refine Call_ (ld_blt I hg hm boot_range (PyProof.Rows.callWith_type1 (thn (ha pos pins s σ H _ I h) fun us s1 ⟨vs, H1, I1, r1, q1⟩ => ?_) (by rw [hs, hs2]) (by rw [hs2]; rfl)))
  obtain ⟨i, j, e, ⟨q1, q2, q3, q4⟩, q⟩ := q1
  subst e
  cases r1 with
  | cons r rr =>
    cases rr with
    | cons r' rr =>
      cases rr
      obtain ⟨t, rfl⟩ := r
      obtain ⟨t', rfl⟩ := r'
      exact call_range_2 (range_it I1 q1 q2 q3 q4 q)
def tFor (wi : TI) (g : TG) (tb : TS) : TS := fun D σ H => wi σ H fun J H1 => ∃ W : Nat → Nat → St → Hp → Prop, (∃ m, W 0 m σ H1) ∧ ∀ i m σ H, W i m σ H →
  (J.stop i H ∧ D.nx σ H) ∨ (J.go i H ∧ ∃ N : St → Hp → Prop, (∀ σ' H', N σ' H' → ∃ m', m' < m ∧ W (i + 1) m' σ' H') ∧ ∀ x H', J.yld i H x H' → g x σ H' fun σ2 H2 => tb { D with nx := N, ct := N, bk := D.nx } σ2 H2)
def pinsAt (fp : List Addr) (h : Heap) : List (Addr × Obj) := fp.filterMap fun b => (h.get? b).map fun o => (b, o)
theorem mem_pinsAt {fp : List Addr} {h : Heap} {b : Addr} {o : Obj} (hb : b ∈ fp) (e : h.get? b = some o) : (b, o) ∈ pinsAt fp h := List.mem_filterMap.mpr ⟨b, hb, by rw [e]; rfl⟩
theorem of_pinsAt {fp : List Addr} {h : Heap} {p : Addr × Obj} (hp : p ∈ pinsAt fp h) : p.1 ∈ fp ∧ h.get? p.1 = some p.2 := by
  obtain ⟨b, hb, e⟩ := List.mem_filterMap.mp hp
  cases q : h.get? b with
  | none => rw [q] at e; cases e
  | some o =>
    rw [q] at e
    have e' : (b, o) = p := Option.some.inj e
    subst e'
    exact ⟨hb, q⟩
theorem Inv.pinned {pins : List (Addr × Obj)} {σ : St} {H : Hp} {s : Shared} {fp : List Addr} (I : Inv X pins σ H s) (hf : ∀ b ∈ fp, FpOk X pins H b) (ho : ∀ b ∈ fp, ∃ o, s.heap.get? b = some o ∧ ∀ v, o.data ≠ .cell v) : Inv X (pins ++ pinsAt fp s.heap) σ H s :=
  I.pins_of fun p hp => (List.mem_append.mp hp).elim (fun z => I.pin p (List.mem_append_right _ z)) fun z => by
    obtain ⟨hb, e⟩ := of_pinsAt z
    obtain ⟨f0, f1, f2, _⟩ := hf p.1 hb
    obtain ⟨o, e', d⟩ := ho p.1 hb
    rw [e] at e'; cases e'
    exact ⟨e, f0, f1, f2, d⟩
theorem Inv.unpinned {pins pl : List (Addr × Obj)} {σ : St} {H : Hp} {s : Shared} (I : Inv X (pins ++ pl) σ H s) : Inv X pins σ H s := I.pins_of fun p hp => I.pin p (List.mem_append_right _ (List.mem_append_left _ hp))
theorem ps_for {iter : Expr} {body : List Stmt} {wi : TI} {g : TG} {tb : TS} {pos : Pos} (hp : PassesOwn (model X.prog X.w) X.A X.env X.xe) (hc : X.calm = true) (hi : PI X tg iter wi) (hg : PG X tg g) (hb : PSs X body tb)
    (hs : ∀ x, foldedSetIterable iter X.env x = pure x := by intro _; rfl) : PS X (.For tg iter body [] pos) (tFor wi g tb) := by
  intro pins s σ H D I h
  refine wpAny_For (thn (hi pins s σ H _ I h) fun v s1 h1 => thn h1 fun itv s2 h2 => ?_) hs
  obtain ⟨it, fp, tn, J, H2, e, I2, T, st2, f2, W, ⟨m0, w0⟩, turn⟩ := h2
  subst e
  -- what stays true of the iterator's objects through the loop
  have stat : ∀ {H' : Hp}, (∀ b ∈ fp, H' b = none) → ∀ b ∈ fp, FpOk X pins H' b := fun hn b hb => ⟨hn b hb, (f2 b hb).2⟩
  refine codeAny_forLoop_any (fun n s' => ∃ i σ' H', Inv X pins σ' H' s' ∧ tn i s'.heap ∧ (∀ b ∈ fp, H' b = none) ∧ W i n σ' H') ?_ m0 ⟨0, σ, H2, I2, st2, fun b hb => (f2 b hb).1, w0⟩
  rintro n s3 ⟨i, σ3, H3, I3, st3, fr3, w3⟩
  rcases turn i n σ3 H3 w3 with ⟨stop, qn⟩ | ⟨go, N, hN, step⟩
  · refine wpAny_passesOwn hp (thn (T.done X rfl rfl rfl hc i pins s3 σ3 H3 X.xe I3 (stat fr3) st3 stop) fun r s4 ⟨hr, I4⟩ => ?_)
    subst hr
    exact wpAny_execs_nil ⟨σ3, H3, I4, qn⟩
  · refine wpAny_passesOwn hp (thn (T.item X rfl rfl rfl hc i pins s3 σ3 H3 X.xe I3 (stat fr3) st3 go) fun r s4 ⟨u, hr, h4⟩ => ?_)
    subst hr
    refine wpAny_passesOwn hp (thn h4 fun _ s5 ⟨x, H5, I5, r5, y5, st5, fr5⟩ => ?_)
    have I5' := I5.pinned (stat fr5) (T.obj _ _ st5)
    refine wpAny_passesOwn hp (thn (hg _ s5 σ3 H5 x u _ I5' r5 (step x H5 y5)) fun _ s6 ⟨σ6, H6, I6, q6⟩ => ?_)
    refine wpAny_passesOwn hp (thn (hb _ s6 σ6 H6 _ I6 q6) fun f s7 q7 => ?_)
    have again : ∀ {σ7 : St} {H7 : Hp}, Inv X (pins ++ pinsAt fp s5.heap) σ7 H7 s7 → N σ7 H7 → ∃ m, m < n ∧ ∃ i σ' H', Inv X pins σ' H' s7 ∧ tn i s7.heap ∧ (∀ b ∈ fp, H' b = none) ∧ W i m σ' H' := fun {σ7 H7} I7 n7 => by
      obtain ⟨m', hm, w7⟩ := hN σ7 H7 n7
      refine ⟨m', hm, i + 1, σ7, H7, I7.unpinned, T.keep _ _ _ st5 fun b hb o e => (I7.pin (b, o) (List.mem_append_right _ (List.mem_append_right _ (mem_pinsAt hb e)))).1, fun b hb => ?_, w7⟩
      obtain ⟨o, e, d⟩ := T.obj _ _ st5 b hb
      exact (I7.pin (b, o) (List.mem_append_right _ (List.mem_append_right _ (mem_pinsAt hb e)))).2.1
    cases f with
    | next => obtain ⟨σ7, H7, I7, n7⟩ := q7; exact again I7 n7
    | cont => obtain ⟨σ7, H7, I7, n7⟩ := q7; exact again I7 n7
    | brk => obtain ⟨σ7, H7, I7, q7⟩ := q7; exact ⟨σ7, H7, I7.unpinned, q7⟩
    | ret v => obtain ⟨x7, σ7, H7, I7, r7, q7⟩ := q7; exact ⟨x7, σ7, H7, I7.unpinned, r7, q7⟩
end
theorem for_list {K : PySem.W.Frag} {a : Addr} {xs : List V} {g : TG} {tb : TS} {D : Ends} {σ : St} {H : Hp} (Pv : Nat → St → Hp → Prop) (h0 : Pv 0 σ H) (hl : ∀ i σ H, i ≤ xs.length → Pv i σ H → SqL K H a xs)
    (hs : ∀ i x σ H, xs[i]? = some x → Pv i σ H → g x σ H fun σ2 H2 => tb { D with nx := Pv (i + 1), ct := Pv (i + 1), bk := D.nx } σ2 H2) (hd : ∀ σ H, Pv xs.length σ H → D.nx σ H) :
    ∃ W : Nat → Nat → St → Hp → Prop, (∃ m, W 0 m σ H) ∧ ∀ i m σ H, W i m σ H →
      ((Itl K a).stop i H ∧ D.nx σ H) ∨ ((Itl K a).go i H ∧ ∃ N : St → Hp → Prop, (∀ σ' H', N σ' H' → ∃ m', m' < m ∧ W (i + 1) m' σ' H') ∧ ∀ x H', (Itl K a).yld i H x H' → g x σ H' fun σ2 H2 => tb { D with nx := N, ct := N, bk := D.nx } σ2 H2) := by
  refine ⟨fun i m σ H => m = xs.length - i ∧ i ≤ xs.length ∧ Pv i σ H, ⟨xs.length, by simp, Nat.zero_le _, h0⟩, ?_⟩
  rintro i m σ H ⟨rfl, hi, p⟩
  have q := hl i σ H hi p
  by_cases hlt : i < xs.length
  · refine .inr ⟨⟨xs, xs[i], q, by simp [hlt]⟩, Pv (i + 1), fun σ' H' p' => ⟨xs.length - (i + 1), by omega, rfl, hlt, p'⟩, fun x H' y => ?_⟩
    obtain ⟨e, y⟩ := y
    subst e
    exact hs i x σ _ (y xs q) p
  · have e : i = xs.length := by omega
    subst e
    exact .inl ⟨⟨xs, q, Nat.le_refl _⟩, hd σ H p⟩
theorem for_tup {K : PySem.W.Frag} {a : Addr} {xs : List V} {g : TG} {tb : TS} {D : Ends} {σ : St} {H : Hp} (Pv : Nat → St → Hp → Prop) (h0 : Pv 0 σ H) (hl : ∀ i σ H, i ≤ xs.length → Pv i σ H → SqT K H a xs)
    (hs : ∀ i x σ H, xs[i]? = some x → Pv i σ H → g x σ H fun σ2 H2 => tb { D with nx := Pv (i + 1), ct := Pv (i + 1), bk := D.nx } σ2 H2) (hd : ∀ σ H, Pv xs.length σ H → D.nx σ H) :
    ∃ W : Nat → Nat → St → Hp → Prop, (∃ m, W 0 m σ H) ∧ ∀ i m σ H, W i m σ H →
      ((Itt K a).stop i H ∧ D.nx σ H) ∨ ((Itt K a).go i H ∧ ∃ N : St → Hp → Prop, (∀ σ' H', N σ' H' → ∃ m', m' < m ∧ W (i + 1) m' σ' H') ∧ ∀ x H', (Itt K a).yld i H x H' → g x σ H' fun σ2 H2 => tb { D with nx := N, ct := N, bk := D.nx } σ2 H2) := by
  refine ⟨fun i m σ H => m = xs.length - i ∧ i ≤ xs.length ∧ Pv i σ H, ⟨xs.length, by simp, Nat.zero_le _, h0⟩, ?_⟩
  rintro i m σ H ⟨rfl, hi, p⟩
  have q := hl i σ H hi p
  by_cases hlt : i < xs.length
  · refine .inr ⟨⟨xs, xs[i], q, by simp [hlt]⟩, Pv (i + 1), fun σ' H' p' => ⟨xs.length - (i + 1), by omega, rfl, hlt, p'⟩, fun x H' y => ?_⟩
    obtain ⟨e, y⟩ := y
    subst e
    exact hs i x σ _ (y xs q) p
  · have e : i = xs.length := by omega
    subst e
    exact .inl ⟨⟨xs, q, Nat.le_refl _⟩, hd σ H p⟩
theorem for_range {lo : Int} {n : Nat} {g : TG} {tb : TS} {D : Ends} {σ : St} {H : Hp} (Pv : Nat → St → Hp → Prop) (h0 : Pv 0 σ H)
    (hs : ∀ i σ H, i < n → Pv i σ H → g (.int (lo + i)) σ H fun σ2 H2 => tb { D with nx := Pv (i + 1), ct := Pv (i + 1), bk := D.nx } σ2 H2) (hd : ∀ σ H, Pv n σ H → D.nx σ H) :
    ∃ W : Nat → Nat → St → Hp → Prop, (∃ m, W 0 m σ H) ∧ ∀ i m σ H, W i m σ H →
      ((Itr lo n).stop i H ∧ D.nx σ H) ∨ ((Itr lo n).go i H ∧ ∃ N : St → Hp → Prop, (∀ σ' H', N σ' H' → ∃ m', m' < m ∧ W (i + 1) m' σ' H') ∧ ∀ x H', (Itr lo n).yld i H x H' → g x σ H' fun σ2 H2 => tb { D with nx := N, ct := N, bk := D.nx } σ2 H2) := by
  refine ⟨fun i m σ H => m = n - i ∧ i ≤ n ∧ Pv i σ H, ⟨n, by simp, Nat.zero_le _, h0⟩, ?_⟩
  rintro i m σ H ⟨rfl, hi, p⟩
  by_cases hlt : i < n
  · refine .inr ⟨hlt, Pv (i + 1), fun σ' H' p' => ⟨n - (i + 1), by omega, rfl, hlt, p'⟩, fun x H' y => ?_⟩
    obtain ⟨e, y⟩ := y
    subst e y
    exact hs i σ _ hlt p
  · have e : i = n := by omega
    subst e
    exact .inl ⟨Nat.le_refl _, hd σ H p⟩
end L2
namespace L2
open PySem PySem.Spec PyProof.Rows
abbrev R2 := V → V → Hp → VK → Prop
def OpR (X : Cx) (f : Value → Value → Sem Value) (r : R2) : Prop :=
  ∀ (pins : List (Addr × Obj)) (s : Shared) (σ : St) (H : Hp) (x y : V) (v u : Value) (Q : VK), Inv X pins σ H s → RelV x v → RelV y u → r x y H Q →
    wpAny (model X.prog X.w) X.A (f v u) (EP X pins σ Q) X.xe s
def UnR (X : Cx) (f : Value → Sem Value) (r : V → Hp → VK → Prop) : Prop :=
  ∀ (pins : List (Addr × Obj)) (s : Shared) (σ : St) (H : Hp) (x : V) (v : Value) (Q : VK), Inv X pins σ H s → RelV x v → r x H Q →
    wpAny (model X.prog X.w) X.A (f v) (EP X pins σ Q) X.xe s
def CallR (X : Cx) (f : Value) (r : List V → Hp → VK → Prop) : Prop :=
  ∀ (pins : List (Addr × Obj)) (s : Shared) (σ : St) (H : Hp) (xs : List V) (us : List Value) (Q : VK), Inv X pins σ H s → Vals xs us → r xs H Q →
    wpAny (model X.prog X.w) X.A (call f us) (EP X pins σ Q) X.xe s
def tOp (r : R2) (ta tb : TE) : TE := fun σ H Q => ta σ H fun x H1 => tb σ H1 fun y H2 => r x y H2 Q
def tUn (r : V → Hp → VK → Prop) (ta : TE) : TE := fun σ H Q => ta σ H fun x H1 => r x H1 Q
def rI (C : Int → Int → Prop) (g : Int → Int → V) : R2 := fun x y H Q => ∃ i j, x = .int i ∧ y = .int j ∧ C i j ∧ Q (g i j) H
def rI0 (g : Int → Int → V) : R2 := fun x y H Q => ∃ i j, x = .int i ∧ y = .int j ∧ Q (g i j) H
def rU (g : Int → V) : V → Hp → VK → Prop := fun x H Q => ∃ i, x = .int i ∧ Q (g i) H
section
variable {X : Cx} {a b c : Expr} {ta tb tc : TE} {pos : Pos}
theorem binT (ha : PE X a ta) (hb : PE X b tb) {pins : List (Addr × Obj)} {s : Shared} {σ : St} {H : Hp} {R : V → V → Hp → Prop} (I : Inv X pins σ H s)
    (h : ta σ H fun x H1 => tb σ H1 fun y H2 => R x y H2) {Q : Value → Shared → Prop} {f : Value → Value → Sem Value}
    (hf : ∀ v u s2 x y H2, Inv X pins σ H2 s2 → RelV x v → RelV y u → R x y H2 → wpAny (model X.prog X.w) X.A (f v u) Q X.xe s2) :
    wpAny (model X.prog X.w) X.A (eval a X.env) (fun v s₁ => wpAny (model X.prog X.w) X.A (eval b X.env) (fun u s₂ => wpAny (model X.prog X.w) X.A (f v u) Q X.xe s₂) X.xe s₁) X.xe s := by
  refine thn (ha pins s σ H _ I h) fun v s1 ⟨x, H1, I1, r1, q1⟩ => ?_
  refine thn (hb pins s1 σ H1 _ I1 q1) fun u s2 ⟨y, H2, I2, r2, q2⟩ => ?_
  exact hf v u s2 x y H2 I2 r1 r2 q2
theorem pe_op {op : Operator} {r : R2} (ho : OpR X (binaryOp op) r) (ha : PE X a ta) (hb : PE X b tb) : PE X (.BinOp a op b pos) (tOp r ta tb) := by
  intro pins s σ H Q I h
  exact wpAny_BinOp (binT ha hb I h fun v u s2 x y H2 I2 rx ry q => ho pins s2 σ H2 x y v u Q I2 rx ry q)
theorem pe_un {op : UnaryOp} {r : V → Hp → VK → Prop} (ho : UnR X (unaryOp op) r) (ha : PE X a ta) : PE X (.UnaryOp op a pos) (tUn r ta) := by
  intro pins s σ H Q I h
  exact UnaryOp_ (thn (ha pins s σ H _ I h) fun v s1 ⟨x, H1, I1, r1, q1⟩ => ho pins s1 σ H1 x v Q I1 r1 q1)
theorem opI {f : Value → Value → Sem Value} {C : Int → Int → Prop} {g : Int → Int → Int}
    (rule : ∀ (i j : Int) (t u : Tok) (s : Shared) (Q : Value → Shared → Prop) (E : Value → Shared → Prop), C i j → Q (.int (g i j) s.toks) { s with toks := s.toks + 1 } → wpAny (model X.prog X.w) X.A (f (.int i t) (.int j u)) Q E s) :
    OpR X f (rI C fun i j => .int (g i j)) := by
  intro pins s σ H x y v u Q I rx ry h
  obtain ⟨i, j, rfl, rfl, hc, q⟩ := h
  obtain ⟨t, rfl⟩ := rx
  obtain ⟨t', rfl⟩ := ry
  exact rule i j t t' s _ _ hc ⟨.int (g i j), H, I.tok _, ⟨_, rfl⟩, q⟩
theorem opI0 {f : Value → Value → Sem Value} {g : Int → Int → Int}
    (rule : ∀ (i j : Int) (t u : Tok) (s : Shared) (Q : Value → Shared → Prop) (E : Value → Shared → Prop), Q (.int (g i j) s.toks) { s with toks := s.toks + 1 } → wpAny (model X.prog X.w) X.A (f (.int i t) (.int j u)) Q E s) :
    OpR X f (rI0 fun i j => .int (g i j)) := by
  intro pins s σ H x y v u Q I rx ry h
  obtain ⟨i, j, rfl, rfl, q⟩ := h
  obtain ⟨t, rfl⟩ := rx
  obtain ⟨t', rfl⟩ := ry
  exact rule i j t t' s _ _ ⟨.int (g i j), H, I.tok _, ⟨_, rfl⟩, q⟩
theorem opB0 {f : Value → Value → Sem Value} {g : Int → Int → Bool}
    (rule : ∀ (i j : Int) (t u : Tok) (s : Shared) (Q : Value → Shared → Prop) (E : Value → Shared → Prop), Q (.bool (g i j)) s → wpAny (model X.prog X.w) X.A (f (.int i t) (.int j u)) Q E s) :
    OpR X f (rI0 fun i j => .bl (g i j)) := by
  intro pins s σ H x y v u Q I rx ry h
  obtain ⟨i, j, rfl, rfl, q⟩ := h
  obtain ⟨t, rfl⟩ := rx
  obtain ⟨t', rfl⟩ := ry
  exact rule i j t t' s _ _ ⟨.bl (g i j), H, I, rfl, q⟩
def CDiv (i j : Int) : Prop := 0 < j ∧ j < 1073741824
def CPow (i j : Int) : Prop := 0 ≤ j ∧ j ≤ 1000000 ∧ i.natAbs < 2 ^ 64
def CMul (i j : Int) : Prop := (-(2 ^ 64) < i ∧ i < 2 ^ 64) ∨ (-(2 ^ 64) < j ∧ j < 2 ^ 64)
theorem CMul.ok {i j : Int} (h : CMul i j) : IntMulOk i j := by
  rcases h with ⟨h1, h2⟩ | ⟨h1, h2⟩
  · exact .of_left (intBits_le_64 h1 h2)
  · exact .of_right (intBits_le_64 h1 h2)
theorem op_add : OpR X (binaryOp .Add) (rI0 fun i j => .int (i + j)) := opI0 fun _ _ _ _ _ _ _ q => add_int q
theorem op_sub : OpR X (binaryOp .Sub) (rI0 fun i j => .int (i - j)) := opI0 fun _ _ _ _ _ _ _ q => sub_int q
theorem op_mul : OpR X (binaryOp .Mult) (rI CMul fun i j => .int (i * j)) := opI fun _ _ _ _ _ _ _ hc q => mul_int q hc.ok
theorem op_fdiv : OpR X (binaryOp .FloorDiv) (rI CDiv fun i j => .int (i / j)) := opI fun i j _ _ _ _ _ hc q => by
  have h1 : (0 : Int) < j := hc.1
  have h2 : j < 1073741824 := hc.2
  exact floordiv_int (by omega) (by rw [Int.fdiv_eq_ediv_of_nonneg i (by omega)]; exact q) (.inl (PyProof.noPylong_small (by omega)))
theorem op_mod : OpR X (binaryOp .Mod) (rI (fun _ j => 0 < j) fun i j => .int (i % j)) := opI fun i j _ _ _ _ _ hc q => by
  have h1 : (0 : Int) < j := hc
  exact mod_int' (by omega) (by rw [Int.fmod_eq_emod_of_nonneg i (by omega)]; exact q)
theorem op_pow : OpR X (binaryOp .Pow) (rI CPow fun i j => .int (i ^ j.toNat)) := opI fun _ _ _ _ _ _ _ hc q => pow_int_small hc.1 hc.2.1 hc.2.2 q
theorem unI {f : Value → Sem Value} {g : Int → Int}
    (rule : ∀ (i : Int) (t : Tok) (s : Shared) (Q : Value → Shared → Prop) (E : Value → Shared → Prop), Q (.int (g i) s.toks) { s with toks := s.toks + 1 } → wpAny (model X.prog X.w) X.A (f (.int i t)) Q E s) :
    UnR X f (rU fun i => .int (g i)) := by
  intro pins s σ H x v Q I rx h
  obtain ⟨i, rfl, q⟩ := h
  obtain ⟨t, rfl⟩ := rx
  exact rule i t s _ _ ⟨.int (g i), H, I.tok _, ⟨_, rfl⟩, q⟩
theorem un_neg : UnR X (unaryOp .USub) (rU fun i => .int (-i)) := unI fun _ _ _ _ _ q => neg_int q
end
def scal : V → V → Bool
  | .non, .non => true | .non, .int _ => true | .int _, .non => true | .non, .bl _ => true | .bl _, .non => true | .non, .str _ => true | .str _, .non => true
  | .int _, .int _ => true | .bl _, .bl _ => true | .str _, .str _ => true | .byt _, .byt _ => true
  | .int _, .str _ => true | .str _, .int _ => true | .bl _, .str _ => true | .str _, .bl _ => true
  | _, _ => false
def rEq : R2 := fun x y H Q => scal x y = true ∧ Q (.bl (decide (x = y))) H
def rNe : R2 := fun x y H Q => scal x y = true ∧ Q (.bl (!decide (x = y))) H
theorem dec_int {i j : Int} : decide (V.int i = V.int j) = (i == j) := by
  rw [Bool.eq_iff_iff]
  simp
theorem dec_bl {i j : Bool} : decide (V.bl i = V.bl j) = (i == j) := by
  rw [Bool.eq_iff_iff]
  simp
theorem dec_str {i j : Str} : decide (V.str i = V.str j) = (i == j) := by
  rw [Bool.eq_iff_iff]
  simp
theorem dec_byt {i j : Array UInt8} : decide (V.byt i = V.byt j) = (i.toList == j.toList) := by
  rw [Bool.eq_iff_iff]
  cases i
  cases j
  simp
section
variable {X : Cx} {a b c : Expr} {ta tb tc : TE} {pos : Pos}
theorem fin_bl {pins : List (Addr × Obj)} {σ : St} {H : Hp} {s : Shared} {Q : VK} {k k' : Bool} (I : Inv X pins σ H s) (q : Q (.bl k) H) (e : k = k') : EP X pins σ Q (.bool k') s := by
  subst e
  exact ⟨.bl k, H, I, rfl, q⟩
theorem op_eq : OpR X (compareOp .Eq) rEq := by
  intro pins s σ H x y v u Q I rx ry h
  obtain ⟨hs, q⟩ := h
  cases x with
  | non =>
    cases rx
    cases y with
    | non => cases ry; exact PySem.EqNone.eq_none_none (fin_bl I q (by simp))
    | bl j => cases ry; exact PySem.EqNone.eq_none_bool (fin_bl I q (by simp))
    | int j => obtain ⟨t', rfl⟩ := ry; exact PySem.EqNone.eq_none_int (fin_bl I q (by simp))
    | str j => obtain ⟨t', rfl⟩ := ry; exact PySem.EqNone.eq_none_str (fin_bl I q (by simp))
    | _ => exact absurd (show false = true from hs) Bool.false_ne_true
  | bl i =>
    cases rx
    cases y with
    | non => cases ry; exact PySem.EqNone.eq_bool_none (fin_bl I q (by simp))
    | bl j => cases ry; exact eq_bool (fin_bl I q dec_bl)
    | str j => obtain ⟨t', rfl⟩ := ry; exact PySem.EqMixed.eq_bool_str (fin_bl I q (by simp))
    | _ => exact absurd (show false = true from hs) Bool.false_ne_true
  | int i =>
    obtain ⟨t, rfl⟩ := rx
    cases y with
    | non => cases ry; exact PySem.EqNone.eq_int_none (fin_bl I q (by simp))
    | int j => obtain ⟨t', rfl⟩ := ry; exact eq_int (fin_bl I q dec_int)
    | str j => obtain ⟨t', rfl⟩ := ry; exact PySem.EqMixed.eq_int_str (fin_bl I q (by simp))
    | _ => exact absurd (show false = true from hs) Bool.false_ne_true
  | str i =>
    obtain ⟨t, rfl⟩ := rx
    cases y with
    | non => cases ry; exact PySem.EqNone.eq_str_none (fin_bl I q (by simp))
    | bl j => cases ry; exact PySem.EqMixed.eq_str_bool (fin_bl I q (by simp))
    | int j => obtain ⟨t', rfl⟩ := ry; exact PySem.EqMixed.eq_str_int (fin_bl I q (by simp))
    | str j => obtain ⟨t', rfl⟩ := ry; exact eq_str (fin_bl I q dec_str)
    | _ => exact absurd (show false = true from hs) Bool.false_ne_true
  | byt i =>
    obtain ⟨t, rfl⟩ := rx
    cases y with
    | byt j => obtain ⟨t', rfl⟩ := ry; exact PySem.W.eq_bytes (fin_bl I q dec_byt)
    | _ => exact absurd (show false = true from hs) Bool.false_ne_true
  | _ => cases y <;> exact absurd (show false = true from hs) Bool.false_ne_true
theorem op_ne : OpR X (compareOp .NotEq) rNe := by
  intro pins s σ H x y v u Q I rx ry h
  obtain ⟨hs, q⟩ := h
  cases x with
  | non =>
    cases rx
    cases y with
    | non => cases ry; exact PySem.EqNone.ne_none_none (fin_bl I q (by simp))
    | bl j => cases ry; exact PySem.EqNone.ne_none_bool (fin_bl I q (by simp))
    | int j => obtain ⟨t', rfl⟩ := ry; exact PySem.EqNone.ne_none_int (fin_bl I q (by simp))
    | str j => obtain ⟨t', rfl⟩ := ry; exact PySem.EqNone.ne_none_str (fin_bl I q (by simp))
    | _ => exact absurd (show false = true from hs) Bool.false_ne_true
  | bl i =>
    cases rx
    cases y with
    | non => cases ry; exact PySem.EqNone.ne_bool_none (fin_bl I q (by simp))
    | bl j => cases ry; exact ne_bool (fin_bl I q (congrArg not dec_bl))
    | str j => obtain ⟨t', rfl⟩ := ry; exact PySem.EqMixed.ne_bool_str (fin_bl I q (by simp))
    | _ => exact absurd (show false = true from hs) Bool.false_ne_true
  | int i =>
    obtain ⟨t, rfl⟩ := rx
    cases y with
    | non => cases ry; exact PySem.EqNone.ne_int_none (fin_bl I q (by simp))
    | int j => obtain ⟨t', rfl⟩ := ry; exact ne_int (fin_bl I q (congrArg not dec_int))
    | str j => obtain ⟨t', rfl⟩ := ry; exact PySem.EqMixed.ne_int_str (fin_bl I q (by simp))
    | _ => exact absurd (show false = true from hs) Bool.false_ne_true
  | str i =>
    obtain ⟨t, rfl⟩ := rx
    cases y with
    | non => cases ry; exact PySem.EqNone.ne_str_none (fin_bl I q (by simp))
    | bl j => cases ry; exact PySem.EqMixed.ne_str_bool (fin_bl I q (by simp))
    | int j => obtain ⟨t', rfl⟩ := ry; exact PySem.EqMixed.ne_str_int (fin_bl I q (by simp))
    | str j => obtain ⟨t', rfl⟩ := ry; exact ne_str (fin_bl I q (congrArg not dec_str))
    | _ => exact absurd (show false = true from hs) Bool.false_ne_true
  | byt i =>
    obtain ⟨t, rfl⟩ := rx
    cases y with
    | byt j => obtain ⟨t', rfl⟩ := ry; exact PySem.W.ne_bytes (fin_bl I q (congrArg not dec_byt))
    | _ => exact absurd (show false = true from hs) Bool.false_ne_true
  | _ => cases y <;> exact absurd (show false = true from hs) Bool.false_ne_true
theorem op_lt : OpR X (compareOp .Lt) (rI0 fun i j => .bl (decide (i < j))) := opB0 fun _ _ _ _ _ _ _ q => lt_int q
theorem op_le : OpR X (compareOp .LtE) (rI0 fun i j => .bl (decide (i ≤ j))) := opB0 fun _ _ _ _ _ _ _ q => le_int q
theorem op_gt : OpR X (compareOp .Gt) (rI0 fun i j => .bl (decide (j < i))) := opB0 fun _ _ _ _ _ _ _ q => gt_int q
theorem op_ge : OpR X (compareOp .GtE) (rI0 fun i j => .bl (decide (j ≤ i))) := opB0 fun _ _ _ _ _ _ _ q => ge_int q
theorem op_isN : OpR X (compareOp .Is) (fun x y H Q => y = .non ∧ Q (.bl (decide (x = .non))) H) := by
  intro pins s σ H x y v u Q I rx ry h
  obtain ⟨rfl, q⟩ := h
  cases ry
  refine is_none_gen (fin_bl I q ?_)
  cases x <;> first
    | (cases rx; rfl)
    | (obtain ⟨t, rfl⟩ := rx; rfl)
theorem nomark (b : Expr) {op : CmpOp} (h : op ≠ .In := by decide) (h2 : op ≠ .NotIn := by decide) : behindInMarks op b = false := by
  have e1 : (op == CmpOp.In) = false := by cases op <;> first | rfl | exact absurd rfl h
  have e2 : (op == CmpOp.NotIn) = false := by cases op <;> first | rfl | exact absurd rfl h2
  cases b <;> simp [behindInMarks, e1, e2]
theorem pe_cmpR {op : CmpOp} {r : R2} (ho : OpR X (compareOp op) r) (ha : PE X a ta) (hb : PE X b tb) (hm : behindInMarks op b = false) : PE X (.Compare a [op] [b] pos) (tOp r ta tb) := by
  intro pins s σ H Q I h
  exact wpAny_Compare1 (binT ha hb I h fun v u s2 x y H2 I2 rx ry q => ho pins s2 σ H2 x y v u Q I2 rx ry q) hm
def tTest (t : TE) : TT := fun σ H Q => t σ H fun x H' => ∃ k, x = .bl k ∧ Q k H'
theorem pt_cmpR {op : CmpOp} {r : R2} (ho : OpR X (compareOp op) r) (ha : PE X a ta) (hb : PE X b tb) (hm : behindInMarks op b = false) : PT X (.Compare a [op] [b] pos) (tTest (tOp r ta tb)) := by
  intro pins s σ H Q I h
  refine wpAny_isTrue_Compare1 (thn (ha pins s σ H _ I h) fun v s1 ⟨x, H1, I1, r1, q1⟩ => thn (hb pins s1 σ H1 _ I1 q1) fun u s2 ⟨y, H2, I2, r2, q2⟩ =>
    thn (ho pins s2 σ H2 x y v u _ I2 r1 r2 q2) fun c s3 ⟨z, H3, I3, r3, k, e, q3⟩ => ?_) hm
  subst e
  cases r3
  exact wpAny_truthy_bool ⟨H3, I3, q3⟩
def tChain (r r' : R2) (ta tb tc : TE) : TE := fun σ H Q => ta σ H fun x H1 => tb σ H1 fun y H2 => r x y H2 fun z H3 => ∃ k, z = .bl k ∧
  (if k = true then tc σ H3 fun w' H4 => r' y w' H4 Q else Q (.bl false) H3)
theorem pt_chain {op op' : CmpOp} {r r' : R2} (ho : OpR X (compareOp op) r) (ho' : OpR X (compareOp op') r') (ha : PE X a ta) (hb : PE X b tb) (hc : PE X c tc)
    (hm : lastMarks [op, op'] [b, c] = false := by with_unfolding_all rfl) : PT X (.Compare a [op, op'] [b, c] pos) (tTest (tChain r r' ta tb tc)) := by
  intro pins s σ H Q I h
  refine isTrue_chain (thn (ha pins s σ H _ I h) fun v s1 ⟨x, H1, I1, r1, q1⟩ => test_link (thn (hb pins s1 σ H1 _ I1 q1) fun u s2 ⟨y, H2, I2, r2, q2⟩ =>
    thn (ho pins s2 σ H2 x y v u _ I2 r1 r2 q2) fun d s3 ⟨z, H3, I3, r3, k, e, q3⟩ => ?_)) hm
  subst e
  cases r3
  refine wpAny_truthy_bool ?_
  cases k with
  | false =>
    obtain ⟨k', e', q'⟩ := q3
    cases e'
    exact ite_ff ⟨H3, I3, q'⟩
  | true =>
    refine ite_tt (test_last (thn (hc pins s3 σ H3 _ I3 q3) fun w' s4 ⟨z', H4, I4, r4, q4⟩ => thn (ho' pins s4 σ H4 y z' u w' _ I4 r2 r4 q4) fun d' s5 ⟨z2, H5, I5, r5, k2, e2, q5⟩ => ?_))
    subst e2
    cases r5
    exact wpAny_truthy_bool ⟨H5, I5, q5⟩
theorem line63 : (sizeLine : Nat) < 2 ^ 63 := by rw [sizeLine_eq]; decide
theorem op_add_str : OpR X (binaryOp .Add) (fun x y H Q => ∃ i j, x = .str i ∧ y = .str j ∧ i.length + j.length ≤ sizeLine ∧ Q (.str (i ++ j)) H) := by
  intro pins s σ H x y v u Q I rx ry h
  obtain ⟨i, j, rfl, rfl, hz, q⟩ := h
  obtain ⟨t, rfl⟩ := rx
  obtain ⟨t', rfl⟩ := ry
  exact add_str (fun t' tk => ⟨.str (i ++ j), H, I.tok _, ⟨_, rfl⟩, q⟩) hz
theorem vals1 {x : V} {us : List Value} (r : Vals [x] us) : ∃ u, us = [u] ∧ RelV x u := by
  cases r with
  | cons r1 r2 => cases r2; exact ⟨_, rfl, r1⟩
theorem vals2 {x y : V} {us : List Value} (r : Vals [x, y] us) : ∃ u w', us = [u, w'] ∧ RelV x u ∧ RelV y w' := by
  cases r with
  | cons r1 r2 =>
    cases r2 with
    | cons r3 r4 => cases r4; exact ⟨_, _, rfl, r1, r3⟩
theorem call_max2 (hc : X.calm = true) : CallR X (.builtin "max") (fun xs H Q => ∃ i j, xs = [.int i, .int j] ∧ Q (.int (if j > i then j else i)) H) := by
  intro pins s σ H xs us Q I r h
  obtain ⟨i, j, rfl, q⟩ := h
  obtain ⟨u, w', rfl, ⟨t, rfl⟩, ⟨t', rfl⟩⟩ := vals2 r
  refine max_two_ints (I.ok.hd hc) fun h' tk k => ⟨_, H, I.kept k, ?_, q⟩
  by_cases hj : j > i
  · rw [if_pos hj, if_pos hj]; exact ⟨_, rfl⟩
  · rw [if_neg hj, if_neg hj]; exact ⟨_, rfl⟩
theorem call_min2 (hc : X.calm = true) : CallR X (.builtin "min") (fun xs H Q => ∃ i j, xs = [.int i, .int j] ∧ Q (.int (if j < i then j else i)) H) := by
  intro pins s σ H xs us Q I r h
  obtain ⟨i, j, rfl, q⟩ := h
  obtain ⟨u, w', rfl, ⟨t, rfl⟩, ⟨t', rfl⟩⟩ := vals2 r
  refine min_two_ints (I.ok.hd hc) fun h' tk k => ⟨_, H, I.kept k, ?_, q⟩
  by_cases hj : j < i
  · rw [if_pos hj, if_pos hj]; exact ⟨_, rfl⟩
  · rw [if_neg hj, if_neg hj]; exact ⟨_, rfl⟩
theorem call_int1 : CallR X (.type "int") (fun xs H Q => (∃ i, xs = [.int i] ∧ Q (.int i) H) ∨ ∃ k, xs = [.bl k] ∧ Q (.int (if k then 1 else 0)) H) := by
  intro pins s σ H xs us Q I r h
  rcases h with ⟨i, rfl, q⟩ | ⟨k, rfl, q⟩
  · obtain ⟨u, rfl, t, rfl⟩ := vals1 r
    exact call_int_int ⟨.int i, H, I, ⟨_, rfl⟩, q⟩
  · obtain ⟨u, rfl, r1⟩ := vals1 r
    cases r1
    exact call_int_bool ⟨.int (if k then 1 else 0), H, I.tok _, ⟨_, rfl⟩, q⟩
end
end L2
namespace L2
open PySem PySem.Spec PyProof.Rows
structure ObjM (h : Heap) (x dx C : Addr) (mA : Str → Option Value) : Prop where
  obj : h.get? x = some (PySem.W.instObj C dx)
  ns : h.Ns1 dx mA
  ne : dx ≠ x
theorem lookIn_ns {h : Heap} {dx : Addr} {mA : Str → Option Value} (n : h.Ns1 dx mA) : ∃ od, h.get? dx = some od ∧ ∀ name, PySem.W.lookIn name od = some (mA name) := by
  obtain ⟨o, es, ep, ho, hd, hk, _, hm⟩ := n
  refine ⟨o, ho, fun name => ?_⟩
  have e := hm name
  unfold nsFind findBy at e
  rw [← Array.find?_toList] at e
  unfold PySem.W.lookIn
  rw [hd]
  dsimp only
  split
  · rename_i y q
    rw [q] at e
    exact congrArg some e
  · rename_i q
    rw [q] at e
    have a : es.toList.any (·.refKey) = false := by
      rw [List.any_eq_false]
      intro y hy
      obtain ⟨z, t, hkey⟩ := hk y (Array.mem_toList_iff.mp hy)
      simp [DictEntry.refKey, hkey]
    have a' : ¬ es.toList.any (·.refKey) = true := by rw [a]; exact Bool.false_ne_true
    rw [if_neg a']
    exact congrArg some e
theorem ObjM.look {h : Heap} {x dx C : Addr} {mA : Str → Option Value} (I : ObjM h x dx C mA) : ∃ od, PySem.W.InstAt h x (PySem.W.instObj C dx) C (some od) ∧ ∀ name, PySem.W.lookIn name od = some (mA name) :=
  let ⟨od, ho, hl⟩ := lookIn_ns I.ns
  ⟨od, ⟨I.obj, rfl, rfl, ho⟩, hl⟩
section
variable {prog : Program} {w : World} {A : Around} {E : Value → Shared → Prop} {s : Shared} {K : PySem.W.Frag} {x dx C f : Addr} {mA : Str → Option Value} {name : Str} {v : Value}
end
section
variable {P : Program} {w : World} {H H' : Hp} {h h' : Heap} {a C dx : Addr} {fs fs' : List (Str × V)}
theorem ins_get (hok : HOk P w H h) (e : H a = some (.ins C dx fs)) : ∃ mA, ObjM h a dx C mA ∧ (∀ f, RelO (fs.lookup f) (mA f)) ∧ PySem.Within mA (fs.map (·.1)) ∧ fs.length ≤ 1000 ∧ H dx = some (.own a) := by
  obtain ⟨d, z, ne, ob, mA, n, r, q⟩ := (show ObjOk P w H h a (.ins C dx fs) from hok a _ e)
  exact ⟨mA, ⟨ob, n, ne⟩, r, q, z, d⟩
end
structure Cls (K : PySem.W.Frag) (C : Addr) : Prop where
  pg : PySem.W.plainGet K C Str.empty = true
  hd : PySem.W.hasDictIn K C = true
  po : PySem.W.plainOver K C = true
  sa : PySem.W.findIn K (.ref C) "__setattr__" = some (some (.builtin "object.__setattr__"))
theorem Cls.get {K : PySem.W.Frag} {C : Addr} (c : Cls K C) (f : Str) : PySem.W.plainGet K C f = true := c.pg
section
variable {X : Cx} {pins : List (Addr × Obj)} {σ : St} {H : Hp} {s : Shared} {a C dx : Addr} {fs : List (Str × V)} {f : Str} {v : V} {A : Around} {E : Value → Shared → Prop}
end
section
variable {X : Cx} {o e value : Expr} {f : Str} {pos pos' tpos : Pos} {ta tv : TE}
end
section
variable {X : Cx} {pins : List (Addr × Obj)} {σ : St} {H : Hp} {s : Shared} {A : Around} {E : Value → Shared → Prop} {Q : Value → Shared → Prop} {c : Value} {b : Bool}
inductive TyOf (K : PySem.W.Frag) (H : Hp) : V → Value → Prop where
  | non : TyOf K H .non (.type "NoneType")
  | bl (x : Bool) : TyOf K H (.bl x) (.type "bool")
  | int (i : Int) : TyOf K H (.int i) (.type "int")
  | str (x : Str) : TyOf K H (.str x) (.type "str")
  | flt (x : UInt64) : TyOf K H (.flt x) (.type "float")
  | lst {a : Addr} {xs : List V} (e : H a = some (.lst xs)) : TyOf K H (.ref a) (.type "list")
  | frz {a : Addr} {o : Obj} {xs : List V} (e : H a = some (.frz o (.lst xs))) : TyOf K H (.ref a) (.type "list")
  | tup {a : Addr} {xs : List V} (e : H a = some (.tup xs)) : TyOf K H (.ref a) (.type "tuple")
  | dK {a : Addr} {kvs : List (Key × V)} (e : H a = some (.dK kvs)) : TyOf K H (.ref a) (.type "dict")
  | dT {a : Addr} {kvs : List (List Key × V)} (e : H a = some (.dT kvs)) : TyOf K H (.ref a) (.type "dict")
  | ins {a C dx : Addr} {fs : List (Str × V)} (e : H a = some (.ins C dx fs)) (cl : Cls K C) (ha : PySem.W.findIn K (.ref C) "__class__" = some (some (.builtin "object.__class__")))
      (hn : PySem.W.specialIn K (.builtin "object.__class__") "__get__" = some (some (.builtin "getset_descriptor.__get__"))) (htk : PySem.W.takesIn K (.builtin "object.__class__") = some true)
      (hm : PySem.W.mroIn K C (.type "object") = some true) : TyOf K H (.ref a) (.ref C)
theorem isinst_ok {x : V} {u t : Value} (I : Inv X pins σ H s) (rx : RelV x u) (ty : TyOf X.K H x t) (e : PySem.W.kitOne X.K t c = some b) (h : ∀ tk, Q (.bool b) { s with toks := tk }) :
    wpAny (model X.prog X.w) A (call (.builtin "isinstance") [u, c]) Q E s := by
  cases ty with
  | non => cases (show u = Value.none from rx); exact PySem.W.kia_one PySem.W.kitx_none I.kIn True.intro e (fun z => nomatch z) h
  | bl y => cases (show u = Value.bool y from rx); exact PySem.W.kia_one PySem.W.kitx_bool I.kIn True.intro e (fun z => nomatch z) h
  | int i => obtain ⟨t, q⟩ := (show ∃ t, u = Value.int i t from rx); cases q; exact PySem.W.kia_one PySem.W.kitx_int I.kIn True.intro e (fun z => nomatch z) h
  | str y => obtain ⟨t, q⟩ := (show ∃ t, u = Value.str y t from rx); cases q; exact PySem.W.kia_one PySem.W.kitx_str I.kIn True.intro e (fun z => nomatch z) h
  | flt y => obtain ⟨t, q⟩ := (show ∃ t, u = Value.float y t from rx); cases q; exact PySem.W.kia_one PySem.W.kitx_float I.kIn True.intro e (fun z => nomatch z) h
  | @lst a xs ea =>
    cases (show u = Value.ref a from rx)
    obtain ⟨_, _, n, _, h1⟩ := (show ObjOk X.prog X.w H s.heap a (.lst xs) from I.hok a _ ea)
    exact PySem.W.kia_one PySem.W.kitx_list I.kIn ⟨_, h1, rfl⟩ e (fun z => nomatch z) h
  | @frz a ob xs ea =>
    cases (show u = Value.ref a from rx)
    obtain ⟨_, _, _, n, _, h1⟩ := (show ObjOk X.prog X.w H s.heap a (.frz ob (.lst xs)) from I.hok a _ ea)
    exact PySem.W.kia_one PySem.W.kitx_list I.kIn ⟨_, h1, rfl⟩ e (fun z => nomatch z) h
  | @tup a xs ea =>
    cases (show u = Value.ref a from rx)
    obtain ⟨_, _, _, p⟩ := (show ObjOk X.prog X.w H s.heap a (.tup xs) from I.hok a _ ea)
    obtain ⟨o, h1, h2, _⟩ := p
    exact PySem.W.kia_one PySem.W.kitx_tuple I.kIn ⟨o, h1, h2⟩ e (fun z => nomatch z) h
  | @dK a kvs ea =>
    cases (show u = Value.ref a from rx)
    obtain ⟨_, _, vs, _, p⟩ := (show ObjOk X.prog X.w H s.heap a (.dK kvs) from I.hok a _ ea)
    obtain ⟨o, es, ep, h1, h2, _⟩ := p
    exact PySem.W.kia_one PySem.W.kitx_dict I.kIn ⟨o, h1, h2.1⟩ e (fun z => nomatch z) h
  | @dT a kvs ea => exact False.elim (show ObjOk X.prog X.w H s.heap a (.dT kvs) from I.hok a _ ea)
  | @ins a C dx fs ea cl ha hn htk hm =>
    cases (show u = Value.ref a from rx)
    obtain ⟨mA, O, _⟩ := ins_get I.hok ea
    obtain ⟨od, J, _⟩ := O.look
    exact PySem.W.kia_one (PySem.W.kitx_own (cl.get _) cl.hd ha hn htk hm) I.kIn J e (fun z => nomatch z) h
end
end L2
namespace L2
open PySem PySem.Spec PyProof.Rows
structure Room (k : Nat) (A : Around) : Prop where
  hd : A.handled = none
  dp : A.depth + 3 * k + 5 < recursionLimit
  un : A.units + 16 * k + 200 < cLine
theorem Room.mono {j k : Nat} {A : Around} (r : Room k A) (h : j ≤ k) : Room j A := ⟨r.hd, by have := r.dp; omega, by have := r.un; omega⟩
theorem Room.deeper {k : Nat} {A : Around} (r : Room (k + 1) A) (env : Env) : Room k (A.deeper env) :=
  ⟨r.hd, by have := r.dp; show A.depth + 1 + 3 * k + 5 < _; omega, by have := r.un; show A.units + 3 + 16 * k + 200 < _; omega⟩
theorem Room.depth {k : Nat} {A : Around} (r : Room k A) : A.depth < recursionLimit := by have := r.dp; omega
theorem Room.units {k : Nat} {A : Around} (r : Room k A) : A.units + 64 < cLine := by have := r.un; omega
def tNil : TA := fun _ H Q => Q [] H
def tCons (ta : TE) (tr : TA) : TA := fun σ H Q => ta σ H fun x H1 => tr σ H1 fun xs H2 => Q (x :: xs) H2
section
variable {X : Cx} {e : Expr} {es : List Expr} {te : TE} {t : TA} {pos : Pos}
theorem pa_nil : PA X [] tNil := fun _ _ _ _ H Q I h => Calls.spliced_nil ⟨[], H, I, .nil, h⟩
theorem pa_cons (ha : PE X e te) (hr : PA X es t) (hs : starEach (e :: es) X.env = (false, eval e X.env) :: starEach es X.env := by rfl) : PA X (e :: es) (tCons te t) := by
  intro pos pins s σ H Q I h
  rw [hs]
  show wpAny _ _ (spliced ((false, eval e X.env) :: backTo pos (starEach es X.env))) _ _ s
  refine Calls.spliced_cons (thn (ha pins s σ H _ I h) fun u s1 ⟨x, H1, I1, r1, q1⟩ => ?_)
  exact thn (hr pos pins s1 σ H1 _ I1 q1) fun us s2 ⟨xs, H2, I2, r2, q2⟩ => ⟨x :: xs, H2, I2, .cons r1 r2, q2⟩
def tTup (t : TA) : TE := fun σ H Q => t σ H fun xs H1 => xs.length ≤ sizeLine ∧ ∀ p, H1 p = none → Q (.ref p) (upd H1 p (.tup xs))
def tLst (t : TA) : TE := fun σ H Q => t σ H fun xs H1 => xs.length ≤ sizeLine ∧ ∀ p, H1 p = none → Q (.ref p) (upd H1 p (.lst xs))
theorem pe_tup {x1} (h : PA X es t) : PE X (.Tuple es x1 pos) (tTup t) := by
  intro pins s σ H Q I hq
  refine wpAny_Tuple_spliced (thn (h pos pins s σ H _ I hq) fun us s1 ⟨xs, H1, I1, r, z, q⟩ => ⟨by rw [← r.length]; exact z, ?_⟩)
  have hf : H1 s1.heap.objs.size = none := I1.hok.fresh (Nat.le_refl _)
  refine ⟨.ref s1.heap.objs.size, upd H1 s1.heap.objs.size (.tup xs), I1.laid (t' := s1.toks) (fun b u e => Heap.get?_push_of_some _ e) (Nat.le_refl _) ?_, rfl, q _ hf⟩
  exact ⟨z, us, r, ⟨_, Heap.get?_push_size _ rfl, rfl, _, rfl⟩⟩
theorem pe_lst (h : PA X es t) : PE X (.List es pos) (tLst t) := by
  intro pins s σ H Q I hq
  refine wpAny_List_spliced (thn (h pos pins s σ H _ I hq) fun us s1 ⟨xs, H1, I1, r, z, q⟩ => ⟨by rw [← r.length]; exact z, ?_⟩)
  have hf : H1 s1.heap.objs.size = none := I1.hok.fresh (Nat.le_refl _)
  refine ⟨.ref s1.heap.objs.size, upd H1 s1.heap.objs.size (.lst xs), I1.laid (t' := s1.toks) (fun b u e => Heap.get?_push_of_some _ e) (Nat.le_refl _) ?_, rfl, q _ hf⟩
  exact ⟨z, us, 0, r, Heap.get?_push_size _ rfl⟩
end
abbrev Sp := List V → Hp → VK → XK → Prop
abbrev CXT := List Env → Hp → Shared → XK → Value → Shared → Prop
structure Env0 (P : Program) (w : World) (K : PySem.W.Frag) (mg : Str → Option Value) (base : Heap) (A : Around) (outer : List Env) (s : Shared) (H : Hp) : Prop where
  frames : A.frames = some outer
  mod : Mod K mg base
  bs : ∀ b o, base.get? b = some o → s.heap.get? b = some o ∧ H b = none
  bsz : base.objs.size ≤ s.heap.objs.size
  funs : s.heap.FunFrames base outer
  frf : ∀ b ∈ frs outer, H b = none
  hok : HOk P w H s.heap
  bare : AllBare s.gens
def CE (outer : List Env) (P : Program) (w : World) (H : Hp) (s : Shared) (Q : VK) (u : Value) (s' : Shared) : Prop :=
  ∃ v H', s'.os = s.os ∧ AllBare s'.gens ∧ Un (frs outer) [] H H' s.heap s'.heap ∧ HOk P w H' s'.heap ∧ RelV v u ∧ Q v H'
def CR (CX : CXT) (outer : List Env) (P : Program) (w : World) (H : Hp) (s : Shared) (Q : VK) (E : XK) (r : Result) (s' : Shared) : Prop :=
  match r with
  | .ok (.ret u) => CE outer P w H s Q u s'
  | .ok _ => False
  | .error e => CX outer H s E e s'
structure FnOk (P : Program) (w : World) (K : PySem.W.Frag) (mg : Str → Option Value) (base : Heap) (CX : CXT) (k : Nat) (f : Addr) (fd : FuncData) (ps : List Str) (sp : Sp) : Prop where
  len : ∀ vs H Q E, sp vs H Q E → vs.length = ps.length
  run : ∀ (A : Around) (outer : List Env) (s : Shared) (H : Hp) (args : Args) (us : List Value) (vs : List V) (Q : VK) (E : XK), Room k A → Env0 P w K mg base A outer s H → BindsTo s fd args (ps.zip us) → Vals vs us → sp vs H Q E →
    codeAny (model P w) A (.call (.ref f) args) (CR CX outer P w H s Q E) s
theorem FnOk.mono {P : Program} {w : World} {K : PySem.W.Frag} {mg : Str → Option Value} {base : Heap} {CX : CXT} {j k : Nat} {f : Addr} {fd : FuncData} {ps : List Str} {sp : Sp} (F : FnOk P w K mg base CX j f fd ps sp) (h : j ≤ k) :
    FnOk P w K mg base CX k f fd ps sp := ⟨F.len, fun A outer s H args us vs Q E hr => F.run A outer s H args us vs Q E (hr.mono h)⟩
section
variable {X : Cx} {pins : List (Addr × Obj)} {σ : St} {H : Hp} {s s' : Shared}
theorem Inv.env0 (I : Inv X pins σ H s) : Env0 X.prog X.w X.K X.mg X.base X.A X.stack s H :=
  ⟨I.ok.frames, I.ok.mod, I.bs, Nat.le_trans I.ok.bsz I.sz, I.stack, I.stkFree, I.hok, I.bare⟩
theorem Inv.after {Q : VK} {u : Value} (I : Inv X pins σ H s) (h : CE X.stack X.prog X.w H s Q u s') : EP X pins σ Q u s' := by
  obtain ⟨v, H', os, bare, un, hok, r, q⟩ := h
  obtain ⟨hh, g, d, t, os'⟩ := s'
  obtain rfl : os' = s.os := os
  exact ⟨v, H', I.call (h' := hh) (g' := g) (d' := d) (t' := t) (ch := []) un hok bare (fun b z => absurd z (by simp)), r, q⟩
end
def tCall (sp : Sp) (dvs : List V) (E : XK) (t : TA) : TE := fun σ H Q => t σ H fun vs H1 => sp (vs ++ dvs) H1 Q E
def Binds (K : PySem.W.Frag) (fd : FuncData) (ps : List Str) (ds : List Value) : Prop :=
  ∀ (s : Shared) (us : List Value), K.In s.heap → (us ++ ds).length = ps.length → BindsTo s fd ⟨us, []⟩ (ps.zip (us ++ ds))
theorem Binds.all {K : PySem.W.Frag} {fd : FuncData} {ps : List Str} (h : ∀ us : List Value, us.length = ps.length → bindArgs fd ⟨us, []⟩ = pure (ps.zip us)) : Binds K fd ps [] := fun s us _ hl => by
  rw [List.append_nil] at hl ⊢
  exact .of_eq (h us hl)
def Passes (CX : CXT) (X : Cx) (E : XK) : Prop := ∀ (pins : List (Addr × Obj)) (σ : St) (H : Hp) (s : Shared) (e : Value) (s' : Shared), Inv X pins σ H s → CX X.stack H s E e s' → X.xe e s'
section
variable {X : Cx} {CX : CXT} {k : Nat} {f C : Addr} {fd : FuncData} {ps : List Str} {sp : Sp} {dvs : List V} {ds : List Value} {E : XK} {x m : Str} {p pos apos : Pos} {e o : Expr} {es : List Expr} {ta : TE} {t : TA}
theorem run_fn {pins : List (Addr × Obj)} {σ : St} {H : Hp} {s : Shared} {Q : VK} {us : List Value} {vs : List V} (F : FnOk X.prog X.w X.K X.mg X.base CX k f fd ps sp) (hr : Room k X.A) (hb : Binds X.K fd ps ds) (hd : Vals dvs ds) (hx : Passes CX X E)
    (I : Inv X pins σ H s) (r : Vals vs us) (h : sp (vs ++ dvs) H Q E) : wpAny (model X.prog X.w) X.A (call (.ref f) us) (EP X pins σ Q) X.xe s := by
  have r2 : Vals (vs ++ dvs) (us ++ ds) := r.append hd
  have hl : (us ++ ds).length = ps.length := by rw [← r2.length]; exact F.len _ _ _ _ h
  refine wpAny_call (codeAny_mono (F.run X.A X.stack s H ⟨us, []⟩ (us ++ ds) (vs ++ dvs) Q E hr I.env0 (hb s us I.kIn hl) r2 h) fun r s' hq => ?_)
  cases r with
  | error e => exact hx pins σ H s e s' I hq
  | ok fl =>
    cases fl with
    | ret u => exact I.after hq
    | next => exact False.elim hq
    | brk => exact False.elim hq
    | cont => exact False.elim hq
theorem pe_call (F : FnOk X.prog X.w X.K X.mg X.base CX k f fd ps sp) (hr : Room k X.A) (hg : Gl X x) (hm : X.mg x = some (.ref f)) (hk : PySem.W.keepIn X.K (.ref f) = true) (hb : Binds X.K fd ps ds) (hd : Vals dvs ds) (hx : Passes CX X E)
    (ha : PA X (e :: es) t) (hdb : (x == ("__debug__" : Str)) = false := by decide) (he : starEach (e :: es) X.env = (false, eval e X.env) :: starEach es X.env := by rfl) (hpl : (backTo pos (starEach es X.env)).any (·.1) = false := by rfl) :
    PE X (.Call (.Name x p) (e :: es) [] pos) (tCall sp dvs E t) := by
  intro pins s σ H Q I h
  refine wpAny_Call_Name_kw (ld_glob I hg hm ?_ hdb)
  refine PySem.W.callWith_K (h₀ := X.base) I.ok.mod.kin hk (thn (ha pos pins s σ H _ I h) fun us s1 ⟨vs, H1, I1, r, q⟩ => ⟨I1.kIn, ?_⟩) he hpl
  exact run_fn F hr hb hd hx I1 r q
end
section
variable {X : Cx} {CX : CXT} {k : Nat} {f C : Addr} {fd : FuncData} {ps ks : List Str} {sp : Sp} {E : XK} {x m : Str} {p pos apos kpos : Pos} {e o : Expr} {es : List Expr} {kws : List Keyword} {te ta : TE} {t tk : TA} {nm : Option Str}
variable {g : List Value → List Value → List Value} {gV : List V → List V → List V}
end
structure FnScope (N P : List Str) (sc : Scope) : Prop where
  kind : sc.kind = .function
  co : sc.isCoroutine = false
  gen : sc.isGenerator = false
  nd : N.Nodup
  pre : N.take P.length = P
  par : ∀ x ∈ P, sc.names.lookup x = some .local ∨ sc.names.lookup x = some .cell
  nofree : ∀ y ∈ sc.names, y.2 ≠ .free
theorem bindL_out {kindOf : Str → Option NameKind} {x : Str} : ∀ {binds : List (Str × Value)} {m : Str → Option Value}, (∀ v, (x, v) ∉ binds) → bindL kindOf binds m x = m x
  | [], _, _ => rfl
  | (n, v) :: r, m, h => by
    unfold bindL
    rw [bindL_out fun w hw => h w (List.mem_cons_of_mem _ hw)]
    split
    · have : x ≠ n := by rintro rfl; exact h v List.mem_cons_self
      simp [this]
    · rfl
theorem bindC_out {kindOf : Str → Option NameKind} {x : Str} : ∀ {binds : List (Str × Value)} {m : Str → Option Value}, (∀ v, (x, v) ∉ binds) → bindC kindOf binds m x = m x
  | [], _, _ => rfl
  | (n, v) :: r, m, h => by
    unfold bindC
    rw [bindC_out fun w hw => h w (List.mem_cons_of_mem _ hw)]
    split
    · rfl
    · have : x ≠ n := by rintro rfl; exact h v List.mem_cons_self
      simp [this]
theorem bindL_get {kindOf : Str → Option NameKind} {x : Str} {v : Value} : ∀ {P : List Str} {vs : List Value} {i : Nat} {m : Str → Option Value}, P.Nodup → P[i]? = some x → vs[i]? = some v → kindOf x = some .local →
    bindL kindOf (P.zip vs) m x = some v
  | [], _, _, _, _, h, _, _ => by simp at h
  | _ :: _, [], _, _, _, _, h, _ => by simp at h
  | p :: P, w :: vs, 0, m, nd, h1, h2, hk => by
    simp at h1 h2; subst h1; subst h2
    show bindL kindOf ((p, w) :: P.zip vs) m p = _
    unfold bindL
    rw [bindL_out fun v hv => (List.nodup_cons.mp nd).1 (List.of_mem_zip hv).1, if_pos hk]
    simp
  | p :: P, w :: vs, i + 1, m, nd, h1, h2, hk => by
    show bindL kindOf ((p, w) :: P.zip vs) m x = _
    unfold bindL
    exact bindL_get (i := i) (List.nodup_cons.mp nd).2 (by simpa using h1) (by simpa using h2) hk
theorem bindC_get {kindOf : Str → Option NameKind} {x : Str} {v : Value} : ∀ {P : List Str} {vs : List Value} {i : Nat} {m : Str → Option Value}, P.Nodup → P[i]? = some x → vs[i]? = some v → kindOf x ≠ some .local →
    bindC kindOf (P.zip vs) m x = some v
  | [], _, _, _, _, h, _, _ => by simp at h
  | _ :: _, [], _, _, _, _, h, _ => by simp at h
  | p :: P, w :: vs, 0, m, nd, h1, h2, hk => by
    simp at h1 h2; subst h1; subst h2
    show bindC kindOf ((p, w) :: P.zip vs) m p = _
    unfold bindC
    rw [bindC_out fun v hv => (List.nodup_cons.mp nd).1 (List.of_mem_zip hv).1, if_neg hk]
    simp
  | p :: P, w :: vs, i + 1, m, nd, h1, h2, hk => by
    show bindC kindOf ((p, w) :: P.zip vs) m x = _
    unfold bindC
    exact bindC_get (i := i) (List.nodup_cons.mp nd).2 (by simpa using h1) (by simpa using h2) hk
def start (N : List Str) (vs : List V) : St := vs.map some ++ List.replicate (N.length - vs.length) none
def cxOf (CX : CXT) (P : Program) (w : World) (K : PySem.W.Frag) (mg : Str → Option Value) (base : Heap) (N : List Str) (qual : Str) (scope : Scope) (f : Addr) (cd : Value) (A : Around) (outer : List Env) (s : Shared) (H : Hp) (E : XK) : Cx where
  prog := P
  w := w
  K := K
  mg := mg
  base := base
  A := A.deeper (envOfC qual scope s.heap.objs.size f cd)
  N := N
  s₀ := s
  H₀ := H
  env := envOfC qual scope s.heap.objs.size f cd
  outer := outer
  stack := envOfC qual scope s.heap.objs.size f cd :: outer
  ex := []
  calm := true
  fn := fun _ => true
  pn := []
  xe := fun e s' => wpAny (model P w) (A.deeper (envOfC qual scope s.heap.objs.size f cd)) (leaving (envOfC qual scope s.heap.objs.size f cd) e) (fun _ s'' => CX outer H s E e s'') (fun e' s'' => CX outer H s E e' s'') s'
theorem cell_has {sc : Scope} {n : Nat} {x : Str} (h : sc.names.lookup x = some .cell) : ∃ c, (cellsFrom n sc.names []).lookup x = some c := by
  have q := PySem.W.cellsFrom_some sc.names n [] (.inl h)
  exact Option.isSome_iff_exists.mp q
theorem inv_start {CX : CXT} {P : Program} {w : World} {K : PySem.W.Frag} {mg : Str → Option Value} {base : Heap} {N ps : List Str} {qual : Str} {scope : Scope} {f : Addr} {cd : Value} {A : Around} {outer : List Env} {s s1 : Shared} {H : Hp} {E : XK} {us : List Value} {vs : List V}
    (S : FnScope N ps scope) (hd : A.handled = none) (e0 : Env0 P w K mg base A outer s H) (hl : vs.length = ps.length) (r : Vals vs us)
    (x : InCallC s s.heap.objs.size (bindL (envOfC qual scope s.heap.objs.size f cd).kindOf (ps.zip us) fun _ => none) (cellsFrom (s.heap.objs.size + 1) scope.names []) (bindC (envOfC qual scope s.heap.objs.size f cd).kindOf (ps.zip us) fun _ => none) s1) :
    Inv (cxOf CX P w K mg base N qual scope f cd A outer s H E) [] (start N vs) H s1 := by
  have hpl : ps.length ≤ N.length := by have := congrArg List.length S.pre; rw [List.length_take] at this; omega
  obtain ⟨h1, tk, rfl, hk⟩ := x.done
  have noA : ∀ b : Addr, b ∉ (cxOf CX P w K mg base N qual scope f cd A outer s H E).ex := fun b z => absurd (show b ∈ ([] : List Addr) from z) (by simp)
  refine ⟨⟨e0.mod, S.kind, rfl, rfl, Nat.le_refl _, fun y z c h1 h2 => ?_, fun y hy => ?_, fun y c _ h => ?_, fun _ => hd, Around.frames_deeper e0.frames, .inr ⟨rfl, rfl⟩, fun b z => absurd z (noA b), e0.bs, e0.bsz, fun b _ _ => noA b, fun b z => absurd z (noA b), e0.funs, e0.frf⟩,
    rfl, e0.bare, Un.kept hk, ⟨_, x.toInCall.ns, fun i y v h1 h2 h3 => ?_⟩, fun y c h => ⟨_, x.cell y c h⟩, e0.hok.fresh (Nat.le_refl _), fun y c h => ?_, fun p hp => absurd (show p ∈ ([] : List (Addr × Obj)) from hp) (by simp), e0.hok.kept hk, ?_⟩
  · exact name_of_addr x.apart (PySem.mem_of_lookup h1) (PySem.mem_of_lookup h2)
  · have hy : scope.names.lookup y = some .cell ∨ scope.names.lookup y = some .free := hy
    rcases hy with hy | hy
    · exact cell_has hy
    · exact absurd rfl (S.nofree _ (PySem.mem_of_lookup hy))
  · exact Nat.le_of_lt (x.above y c (PySem.mem_of_lookup h))
  · have hi : i < vs.length := by
      unfold start at h2
      by_cases hi : i < vs.length
      · exact hi
      · rw [List.getElem?_append_right (by simpa using hi)] at h2
        rw [List.getElem?_replicate] at h2
        split at h2 <;> cases h2
    have ha : vs[i]? = some v := by
      unfold start at h2
      rw [List.getElem?_append_left (by simpa using hi), List.getElem?_map] at h2
      cases e : vs[i]? with
      | none => rw [e] at h2; cases h2
      | some a => rw [e] at h2; cases h2; rfl
    obtain ⟨u, hu, rv⟩ := r.get ha
    have hp : ps[i]? = some y := by
      rw [← S.pre, List.getElem?_take_of_lt (by omega)]; exact h1
    have ndP : ps.Nodup := by rw [← S.pre]; exact S.nd.sublist (List.take_sublist _ _)
    refine ⟨u, rv, ?_⟩
    rcases S.par y (List.mem_of_getElem? hp) with k | k
    · exact .inl ⟨k, bindL_get ndP hp hu k⟩
    · obtain ⟨c, e⟩ := cell_has (n := s.heap.objs.size + 1) k
      refine .inr ⟨.inl k, c, e, ?_⟩
      have q := x.cell y c e
      rw [bindC_get ndP hp hu (by show scope.names.lookup y ≠ _; rw [k]; decide)] at q
      exact q
  · exact e0.hok.fresh (Nat.le_of_lt (x.above y c (PySem.mem_of_lookup h)))
  · unfold start
    show _ = N.length
    rw [List.length_append, List.length_map, List.length_replicate]
    omega
theorem fn_of {CX : CXT} {P : Program} {w : World} {K : PySem.W.Frag} {mg : Str → Option Value} {base : Heap} {k : Nat} {f : Addr} {name qual : Str} {params : Arguments} {body : List Stmt} {scope : Scope} {dV kV doc pm cdv ct oc : Value} {an od : Option Addr}
    {osl : Array (Option Value)} {N ps : List Str} {sp : Sp} (lk : K.lookup f = some ⟨oc, od, .func (PySem.W.fnOf name qual params body scope dV kV doc pm an cdv ct), osl⟩) (hcd : PySem.W.codeIn K cdv qual = true) (S : FnScope N ps scope)
    (len : ∀ vs H Q E, sp vs H Q E → vs.length = ps.length)
    (hbody : ∀ (A : Around) (outer : List Env) (s : Shared) (H : Hp) (vs : List V) (Q : VK) (E : XK), Room k (A.deeper (envOfC qual scope s.heap.objs.size f cdv)) → sp vs H Q E →
      ∃ t, PSs (cxOf CX P w K mg base N qual scope f cdv A outer s H E) body t ∧ t { nx := fun _ H' => Q .non H', rt := Q } (start N vs) H) :
    FnOk P w K mg base CX (k + 1) f (PySem.W.fnOf name qual params body scope dV kV doc pm an cdv ct) ps sp := by
  refine ⟨len, fun A outer s H args us vs Q E hr e0 hb r hsp => ?_⟩
  have hl := len _ _ _ _ hsp
  have KX : K.In s.heap := e0.mod.kin.keeps fun b o e => (e0.bs b o e).1
  have lim : s.heap.NoLimit := e0.mod.nolimit.keeps fun b o e => (e0.bs b o e).1
  have hkind : ∀ y ∈ ps.zip us, scope.names.lookup y.1 = some .local ∨ (scope.names.lookup y.1 = some .cell ∧ ((cellsFrom (s.heap.objs.size + 1) scope.names []).lookup y.1).isSome = true) := fun ⟨n, v⟩ hy => by
    rcases S.par n (List.of_mem_zip hy).1 with q | q
    · exact .inl q
    · exact .inr ⟨q, PySem.W.cellsFrom_some _ _ _ (.inl q)⟩
  refine codeAny_call_function hr.depth (KX _ _ lk) rfl S.co S.gen rfl (PySem.W.codeRec_of KX hcd) (hb _ _ _ _ ?_)
  refine wpAny_newFunctionEnv_cells S.kind hkind fun env he s1 x => ?_
  subst he
  refine ⟨lim.keeps x.toInCall.keep, codeAny_func ?_⟩
  obtain ⟨t, ht, hq⟩ := hbody A outer s H vs Q E (hr.deeper _) hsp
  have I : Inv (cxOf CX P w K mg base N qual scope f cdv A outer s H E) [] (start N vs) H s1 := inv_start S hr.hd e0 hl r x
  refine wpAny_mono (ht [] s1 (start N vs) H _ I hq) (fun fl s' hs => ?_) fun e s' hs => hs
  have fin : ∀ {σ' : St} {H' : Hp} {v : V} {u : Value}, Inv (cxOf CX P w K mg base N qual scope f cdv A outer s H E) [] σ' H' s' → RelV v u → Q v H' → CE outer P w H s Q u s' :=
    fun {σ' H' v u} J rv q => ⟨v, H', J.os, J.bare, J.base, J.hok, rv, q⟩
  cases fl with
  | ret u =>
    obtain ⟨v, σ', H', J, rv, q⟩ := hs
    exact fin J rv q
  | next =>
    obtain ⟨σ', H', J, q⟩ := hs
    exact fin (v := V.non) (u := Value.none) J rfl q
  | brk =>
    obtain ⟨_, _, _, q⟩ := hs
    exact False.elim q
  | cont =>
    obtain ⟨_, _, _, q⟩ := hs
    exact False.elim q
end L2
namespace L2
open PySem PySem.Spec PyProof.Rows
section
variable {X : Cx} {x : Str} {p pos : Pos} {e : Expr} {es : List Expr} {t : TA} {id T : String} {r : List V → Hp → VK → Prop}
def tCB (r : List V → Hp → VK → Prop) (t : TA) : TE := fun σ H Q => t σ H fun vs H1 => r vs H1 Q
theorem pe_callB (hc : CallR X (.builtin id) r) (hg : Gl X x) (hm : X.mg x = none) (hv : bootBuiltins x = some (.builtin id)) (ha : PA X (e :: es) t) (hn : x ≠ "__name__" := by decide) (hdb : (x == ("__debug__" : Str)) = false := by decide)
    (he : starEach (e :: es) X.env = (false, eval e X.env) :: starEach es X.env := by rfl) (hpl : (backTo pos (starEach es X.env)).any (·.1) = false := by rfl) : PE X (.Call (.Name x p) (e :: es) [] pos) (tCB r t) := by
  intro pins s σ H Q I h
  refine wpAny_Call_Name_kw (ld_blt I hg hm hv ?_ hn hdb)
  exact PyProof.Rows.callWith_builtin1 (thn (ha pos pins s σ H _ I h) fun us s1 ⟨vs, H1, I1, r1, q1⟩ => hc pins s1 σ H1 vs us Q I1 r1 q1) he hpl
theorem pe_callTy (hc : CallR X (.type T) r) (hg : Gl X x) (hm : X.mg x = none) (hv : bootBuiltins x = some (.type T)) (ha : PA X (e :: es) t) (hn : x ≠ "__name__" := by decide) (hdb : (x == ("__debug__" : Str)) = false := by decide)
    (he : starEach (e :: es) X.env = (false, eval e X.env) :: starEach es X.env := by rfl) (hpl : (backTo pos (starEach es X.env)).any (·.1) = false := by rfl) : PE X (.Call (.Name x p) (e :: es) [] pos) (tCB r t) := by
  intro pins s σ H Q I h
  refine wpAny_Call_Name_kw (ld_blt I hg hm hv ?_ hn hdb)
  exact PyProof.Rows.callWith_type1 (thn (ha pos pins s σ H _ I h) fun us s1 ⟨vs, H1, I1, r1, q1⟩ => hc pins s1 σ H1 vs us Q I1 r1 q1) he hpl
end
end L2
namespace HT
open PySem PyProof.Rows
section
open PySem.SeqAt
open PySem.AutoSeq1 (wpAny_loadPart')
open PySem.MeetsSeq PySem.MeetsSeq2 PySem.MeetsSeq3
end
section
variable {prog : Program} {w : World} {A : Around} {E : Value → Shared → Prop} {s : Shared}
theorem cat_tup {t b : Addr} {vs ws : List Value} {Q : Value → Shared → Prop} (ht : IsTup s.heap t vs.toArray) (hb : IsTup s.heap b ws.toArray) (hv : vs ≠ [])
    (h1 : ws = [] → Q (.ref t) s) (h2 : ws ≠ [] → Q (.ref s.heap.objs.size) { s with heap := s.heap.push { cls := .type "tuple", data := .seq (vs ++ ws).toArray } })
    (hsz : vs.length + ws.length ≤ sizeLine) : wpAny (model prog w) A (binaryOp .Add (.ref t) (.ref b)) Q E s := by
  obtain ⟨⟨cls, dd, data, sl⟩, ho, hc, n, hd⟩ := id ht
  obtain ⟨⟨cls2, dd2, data2, sl2⟩, ho2, hc2, n2, hd2⟩ := id hb
  simp only at hc hd hc2 hd2
  subst hc hd hc2 hd2
  have e : vs.toArray ++ ws.toArray = (vs ++ ws).toArray := by simp
  by_cases hw : ws = []
  · exact concat_meets ⟨_, ho, rfl⟩ ⟨_, ho2, rfl⟩ noFill_tuple_add seq_tuple_add PySem.F.slot_tuple_add PySem.F.entry_tuple_add (PySem.F.args_tuple_add_2 _ _)
      (tuple_addW1 t b vs.toArray ws.toArray n n2 dd dd2 sl sl2 (by simpa using hv) (by simp [hw])) ⟨ho, ho2, h1 hw⟩
  · refine concat_meets ⟨_, ho, rfl⟩ ⟨_, ho2, rfl⟩ noFill_tuple_add seq_tuple_add PySem.F.slot_tuple_add PySem.F.entry_tuple_add (PySem.F.args_tuple_add_2 _ _)
      (tuple_addW2 t b vs.toArray ws.toArray n n2 dd dd2 sl sl2 (by simpa using hv) (by simpa using hw) (by rw [List.size_toArray, List.size_toArray]; exact hsz)) ⟨ho, ho2, ?_⟩
    rw [e]
    exact h2 hw
def sIx (n d : Nat) : Option Int → Nat
  | none => d
  | some v => if v < 0 then (v + (n : Int)).toNat else min v.toNat n
theorem sIx_none (n d : Nat) : sIx n d none = d := rfl
theorem sIx_nat (n d k : Nat) : sIx n d (some (k : Int)) = min k n := by
  show (if (k : Int) < 0 then ((k : Int) + (n : Int)).toNat else min (k : Int).toNat n) = min k n
  rw [if_neg (by omega), Int.toNat_natCast]
theorem sIx_le (n d : Nat) (hd : d ≤ n) (o : Option Int) : sIx n d o ≤ n := by
  cases o with
  | none => exact hd
  | some v =>
    show (if v < 0 then (v + (n : Int)).toNat else min v.toNat n) ≤ n
    by_cases hv : v < 0
    · rw [if_pos hv]; omega
    · rw [if_neg hv]; exact Nat.min_le_right _ _
theorem clip_eq (v : Int) (n d : Nat) : (if v < 0 then max (v + (n : Int)) 0 else min v (n : Int)) = ((sIx n d (some v) : Nat) : Int) := by
  show (if v < 0 then max (v + (n : Int)) 0 else min v (n : Int)) = (((if v < 0 then (v + (n : Int)).toNat else min v.toNat n) : Nat) : Int)
  by_cases hv : v < 0
  · simp only [if_pos hv]; omega
  · simp only [if_neg hv]; omega
theorem adjust_gen (lo hi : Option Int) (n : Nat) : Builtin.Slice.sliceAdjust lo hi 1 (n : Int) = (((sIx n 0 lo : Nat) : Int), ((sIx n n hi : Nat) : Int)) := by
  have h1 : ¬ ((1 : Int) < 0) := by omega
  unfold Builtin.Slice.sliceAdjust
  simp only [h1, if_false]
  refine Prod.ext ?_ ?_
  · cases lo with
    | none => rfl
    | some v => exact clip_eq v n 0
  · cases hi with
    | none => rfl
    | some v => exact clip_eq v n n
theorem places_gen (i j : Nat) : Builtin.Slice.slicePlaces (i : Int) (j : Int) 1 = j - i := by
  unfold Builtin.Slice.slicePlaces
  have h1 : (1 : Int) > 0 := by omega
  simp only [h1, if_true, Int.ediv_one]
  split <;> omega
theorem slicePart_ {v : Value} {o : Option Int} {Q : Option Int → Shared → Prop} (p : IsPart v o) (h : Q o s) : wpAny (model prog w) A (Builtin.Slice.slicePartIndex v) Q E s := by
  cases p with
  | none => exact slicePart_none h
  | int i t => exact slicePart_int h
theorem sliceApplied_gen {sl : Addr} {vl vu : Value} {lo hi : Option Int} {n : Nat} {Q : Int × Int × Nat → Shared → Prop} (hs : s.heap.IsSliceOf sl vl vu .none) (pl : IsPart vl lo) (pu : IsPart vu hi)
    (h : Q (((sIx n 0 lo : Nat) : Int), 1, sIx n n hi - sIx n 0 lo) s) : wpAny (model prog w) A (Builtin.Slice.sliceApplied (.ref sl) (pure (n : Int))) Q E s := by
  obtain ⟨os, hos, hcs, hds⟩ := id hs
  unfold Builtin.Slice.sliceApplied Builtin.Slice.sliceFields
  refine wpAny_bind (wpAny_bind (wpAny_field hos hds (x := vl) rfl (wpAny_bind (wpAny_field hos hds (x := vu) rfl (wpAny_bind (wpAny_field hos hds (x := .none) rfl (wpAny_pure ?_)))))))
  refine wpAny_bind (slicePart_none ?_)
  show wpAny _ _ (if ((1 : Int) == 0) = true then _ else _) _ _ s
  rw [if_neg (by decide)]
  refine wpAny_bind (slicePart_ pl (wpAny_bind (slicePart_ pu (wpAny_bind (wpAny_pure ?_)))))
  show wpAny _ _ (match Builtin.Slice.sliceAdjust lo hi 1 (n : Int) with | (lo, hi) => pure (lo, (1 : Int), Builtin.Slice.slicePlaces lo hi 1)) _ _ s
  rw [adjust_gen lo hi n]
  show wpAny _ _ (pure (((sIx n 0 lo : Nat) : Int), (1 : Int), Builtin.Slice.slicePlaces ((sIx n 0 lo : Nat) : Int) ((sIx n n hi : Nat) : Int) 1)) _ _ s
  rw [places_gen]
  exact wpAny_pure h
theorem pick_gen (xs : Array Value) (i k : Nat) : ((List.range k).filterMap fun (m : Nat) => xs[((i : Int) + (m : Int) * 1).toNat]?).toArray = ((xs.toList.drop i).take k).toArray := by
  have e : (fun (m : Nat) => xs[((i : Int) + (m : Int) * 1).toNat]?) = fun m => xs[i + m]? := by
    funext m
    have : ((i : Int) + (m : Int) * 1).toNat = i + m := by omega
    rw [this]
  rw [e]
  have := pick_run xs i k
  rw [List.filterMap_map] at this
  have e2 : ((fun x => xs[x]?) ∘ fun x => i + x) = fun m => xs[i + m]? := rfl
  rw [e2] at this
  rw [this]
theorem getItem_tuple_cut {t sl : Addr} {items : Array Value} {vl vu : Value} {lo hi : Option Int} {Q : Value → Shared → Prop} (ht : IsTup s.heap t items) (hs : s.heap.IsSliceOf sl vl vu .none) (pl : IsPart vl lo) (pu : IsPart vu hi)
    (hw : ¬ (sIx items.size 0 lo = 0 ∧ sIx items.size items.size hi = items.size))
    (h : Q (.ref s.heap.objs.size) { s with heap := s.heap.push { cls := .type "tuple", data := .seq ((items.toList.drop (sIx items.size 0 lo)).take (sIx items.size items.size hi - sIx items.size 0 lo)).toArray } })
    (hsz : items.size ≤ sizeLine) : wpAny (model prog w) A (getItem (.ref t) (.ref sl)) Q E s := by
  have htake : sizeOk (.seq ((items.toList.drop (sIx items.size 0 lo)).take (sIx items.size items.size hi - sIx items.size 0 lo)).toArray) := by
    show ((items.toList.drop (sIx items.size 0 lo)).take (sIx items.size items.size hi - sIx items.size 0 lo)).toArray.size ≤ sizeLine
    rw [List.size_toArray, List.length_take, List.length_drop, Array.length_toList]
    omega
  have hj : sIx items.size items.size hi ≤ items.size := sIx_le _ _ (Nat.le_refl _) hi
  obtain ⟨os, hos, hcs, hds⟩ := id hs
  have hTs : s.TypeIs (.ref sl) "slice" := ⟨os, hos, hcs⟩
  unfold getItem
  try with_reducible refine wpAny_holding ?_
  first | refine wpAny_bind (wpAny_pure ?_) | skip
  refine wpAny_bind (wpAny_sequenceKey ht.typeIs (by decide) ?_)
  refine wpAny_bind (wpAny_callSpecial?_slot (name := Str.ofString "__getitem__") ht.typeIs PyProof.Rows.slot_tuple_getitem
    (wpAny_call_entry PyProof.Rows.slot_tuple_getitem ht.typeIs entry_tuple_getitem ?_ (args_tuple_getitem _ _)))
  show wpAny _ _ (Builtin.Tuple.tupleItemsOf (.ref t) >>= _) _ _ s
  refine wpAny_bind (tupleItemsOf_ ht ?_)
  refine wpAny_bind (wpAny_typeOf hTs ?_)
  rw [if_pos (by decide)]
  refine wpAny_bind (sliceApplied_gen hs pl pu ?_)
  have hno : ¬ ((((sIx items.size 0 lo : Nat) : Int) == 0 && (1 : Int) == 1 && (sIx items.size items.size hi - sIx items.size 0 lo) == items.size) = true) := by
    intro q
    rw [Bool.and_eq_true, Bool.and_eq_true] at q
    have q1 : ((sIx items.size 0 lo : Nat) : Int) = 0 := eq_of_beq q.1.1
    have q2 : sIx items.size items.size hi - sIx items.size 0 lo = items.size := eq_of_beq q.2
    exact hw ⟨by omega, by omega⟩
  show wpAny _ _ (if (((sIx items.size 0 lo : Nat) : Int) == 0 && (1 : Int) == 1 && (sIx items.size items.size hi - sIx items.size 0 lo) == items.size) = true then _ else _) _ _ s
  rw [if_neg hno, pick_gen]
  first
    | exact wpAny_bind (m := Builtin.Tuple.tupleExact _) (wpAny_newObj_type (wpAny_pure ⟨_, rfl, wpAny_pure h⟩) htake)
    | exact wpAny_bind (m := Builtin.Tuple.tupleExact _) (wpAny_newObj_type (wpAny_bind (wpAny_pure (wpAny_pure ⟨_, rfl, wpAny_pure h⟩))) htake)
    | exact wpAny_bind (wpAny_bind (m := Builtin.Tuple.tupleExact _) (wpAny_newObj_type (wpAny_pure (wpAny_pure ⟨_, rfl, wpAny_pure h⟩)) htake))
    | exact wpAny_bind (wpAny_bind (m := Builtin.Tuple.tupleExact _) (wpAny_newObj_type (wpAny_pure ⟨_, rfl, wpAny_pure h⟩) htake))
end
end HT
namespace L2
open PySem PySem.Spec PyProof.Rows
abbrev TO := St → Hp → (Option Int → Hp → Prop) → Prop
def PO (X : Cx) (e : Option Expr) (t : TO) : Prop :=
  ∀ (pins : List (Addr × Obj)) (s : Shared) (σ : St) (H : Hp) (Q : Option Int → Hp → Prop), Inv X pins σ H s → t σ H Q →
    wpAny (model X.prog X.w) X.A (evalPart e X.env) (fun u s' => ∃ o H', Inv X pins σ H' s' ∧ IsPart u o ∧ Q o H') X.xe s
def tNoPart : TO := fun _ H Q => Q none H
def tPart (t : TE) : TO := fun σ H Q => t σ H fun x H1 => ∃ i, x = .int i ∧ Q (some i) H1
section
variable {X : Cx} {e : Expr} {te : TE} {lo hi : Option Expr} {tl th : TO} {pos p2 : Pos}
theorem po_none : PO X none tNoPart := by
  intro pins s σ H Q I h
  rw [evalPart_none]
  exact wpAny_pure ⟨none, H, I, .none, h⟩
theorem po_some (h : PE X e te) : PO X (some e) (tPart te) := by
  intro pins s σ H Q I hw
  rw [evalPart_some]
  refine thn (h pins s σ H _ I hw) fun u s1 ⟨x, H1, I1, r1, q1⟩ => ?_
  obtain ⟨i, rfl, q⟩ := q1
  obtain ⟨t, rfl⟩ := r1
  exact ⟨some i, H1, I1, .int i t, q⟩
def SlR (X : Cx) (r : V → Option Int → Option Int → Hp → VK → Prop) : Prop :=
  ∀ (pins : List (Addr × Obj)) (s : Shared) (σ : St) (H : Hp) (x : V) (v vl vu : Value) (lo hi : Option Int) (sl : Addr) (Q : VK), Inv X pins σ H s → RelV x v → s.heap.IsSliceOf sl vl vu .none → IsPart vl lo → IsPart vu hi → r x lo hi H Q →
    ∃ T id, typeLookup (.type T) "__getitem__" = pure (some (.builtin id)) ∧ s.TypeIs v T ∧ wpAny (model X.prog X.w) X.A (getItem v (.ref sl)) (EP X pins σ Q) X.xe s
def tSl (r : V → Option Int → Option Int → Hp → VK → Prop) (te : TE) (tl th : TO) : TE := fun σ H Q => te σ H fun x H1 => tl σ H1 fun l H2 => th σ H2 fun u H3 => r x l u H3 Q
theorem pe_slice {r : V → Option Int → Option Int → Hp → VK → Prop} (hr : SlR X r) (he : PE X e te) (hl : PO X lo tl) (hu : PO X hi th) : PE X (.Subscript e (.Slice lo hi none p2) pos) (tSl r te tl th) := by
  intro pins s σ H Q I h
  refine Subscript_ (thn (he pins s σ H _ I h) fun v s1 ⟨x, H1, I1, r1, q1⟩ => ?_)
  refine wpAny_Slice (thn (hl pins s1 σ H1 _ I1 q1) fun vl s2 ⟨l, H2, I2, pl, q2⟩ => thn (hu pins s2 σ H2 _ I2 q2) fun vu s3 ⟨u, H3, I3, pu, q3⟩ => ?_)
  rw [evalPart_none]
  refine wpAny_pure ?_
  have I4 : Inv X pins σ H3 { s3 with heap := s3.heap.push { cls := .type "slice", data := .fields #[vl, vu, .none] } } := I3.kept (t' := s3.toks) fun b ob q => Heap.get?_push_of_some _ q
  obtain ⟨T, id, hT, ht, hg⟩ := hr pins { s3 with heap := s3.heap.push { cls := .type "slice", data := .fields #[vl, vu, .none] } } σ H3 x v vl vu l u s3.heap.objs.size Q I4 r1 (Heap.IsSliceOf.new ..) pl pu q3
  show wpAny (model X.prog X.w) X.A (subscriptTail e (.Slice lo hi none p2) v (.ref s3.heap.objs.size)) (EP X pins σ Q) X.xe { s3 with heap := s3.heap.push { cls := .type "slice", data := .fields #[vl, vu, .none] } }
  exact tail_any (ops := [.ref s3.heap.objs.size, v]) ht hT hg (by with_unfolding_all rfl)
def cutV (xs : List V) (lo hi : Option Int) : List V := (xs.drop (HT.sIx xs.length 0 lo)).take (HT.sIx xs.length xs.length hi - HT.sIx xs.length 0 lo)
theorem cutV_length (xs : List V) (lo hi : Option Int) : (cutV xs lo hi).length ≤ xs.length := by
  unfold cutV
  rw [List.length_take, List.length_drop]
  omega
def rSlT (K : PySem.W.Frag) : V → Option Int → Option Int → Hp → VK → Prop := fun x lo hi H Q => ∃ a xs, x = .ref a ∧ SqT K H a xs ∧
  ¬ (HT.sIx xs.length 0 lo = 0 ∧ HT.sIx xs.length xs.length hi = xs.length) ∧ ∀ p, H p = none → Q (.ref p) (upd H p (.tup (cutV xs lo hi)))
theorem sl_tup : SlR X (rSlT X.K) := by
  intro pins s σ H x v vl vu lo hi sl Q I rx hs pl pu h
  obtain ⟨a, xs, rfl, hx, hw, q⟩ := h
  cases rx
  obtain ⟨its, r, ht, hz⟩ := I.tuple hx
  have hlen : its.toArray.size = xs.length := by rw [List.size_toArray]; exact r.length.symm
  refine ⟨"tuple", _, PyProof.Rows.slot_tuple_getitem.lookup, ht.typeIs, ?_⟩
  refine HT.getItem_tuple_cut ht hs pl pu (by rw [hlen]; exact hw) ?_ (by rw [hlen]; exact hz)
  rw [hlen]
  refine ⟨.ref s.heap.objs.size, _, I.laid (t' := s.toks) (o := .tup (cutV xs lo hi)) (fun b ob q => Heap.get?_push_of_some _ q) (Nat.le_refl _) ?_, rfl, q _ (I.hok.fresh (Nat.le_refl _))⟩
  exact ⟨Nat.le_trans (cutV_length xs lo hi) hz, _, (r.drop (HT.sIx xs.length 0 lo)).take (HT.sIx xs.length xs.length hi - HT.sIx xs.length 0 lo), IsTup.new _ _⟩
def rCatT (K : PySem.W.Frag) : R2 := fun x y H Q => ∃ a b xs ys, x = .ref a ∧ y = .ref b ∧ SqT K H a xs ∧ SqT K H b ys ∧ xs ≠ [] ∧ xs.length + ys.length ≤ sizeLine ∧
  (ys = [] → Q (.ref a) H) ∧ (ys ≠ [] → ∀ p, H p = none → Q (.ref p) (upd H p (.tup (xs ++ ys))))
theorem Vals.nil_iff {xs : List V} {us : List Value} (r : Vals xs us) : us = [] ↔ xs = [] := by
  cases r with
  | nil => simp
  | cons _ _ => simp
theorem op_catT : OpR X (binaryOp .Add) (rCatT X.K) := by
  intro pins s σ H x y v u Q I rx ry h
  obtain ⟨a, b, xs, ys, rfl, rfl, ha, hb, hx, hz, q1, q2⟩ := h
  cases rx
  cases ry
  obtain ⟨its, r1, p1, _⟩ := I.tuple ha
  obtain ⟨its2, r2, p2, _⟩ := I.tuple hb
  refine HT.cat_tup p1 p2 (fun z => hx (r1.nil_iff.mp z)) (fun z => ⟨.ref a, H, I, rfl, q1 (r2.nil_iff.mp z)⟩) (fun z => ?_) (by rw [← r1.length, ← r2.length]; exact hz)
  refine ⟨.ref s.heap.objs.size, _, I.laid (t' := s.toks) (o := .tup (xs ++ ys)) (fun b ob q => Heap.get?_push_of_some _ q) (Nat.le_refl _) ?_, rfl, q2 (fun w => z (r2.nil_iff.mpr w)) _ (I.hok.fresh (Nat.le_refl _))⟩
  exact ⟨by rw [List.length_append]; exact hz, _, r1.append r2, IsTup.new _ _⟩
end
end L2
namespace L2
open PySem PySem.Spec PyProof.Rows
def ixN (n : Nat) (i : Int) : Option Nat := if 0 ≤ i then (if i < n then some i.toNat else none) else if -(n : Int) ≤ i then some (i + n).toNat else none
def atI {α : Type} (xs : List α) (i : Int) : Option α := (ixN xs.length i).bind fun j => xs[j]?
theorem ixN_seq {n : Nat} {i : Int} {j : Nat} (h : ixN n i = some j) : seqIndex? i n = some j ∧ j < n ∧ -(n : Int) ≤ i ∧ i < n := by
  unfold ixN at h
  by_cases h0 : 0 ≤ i
  · rw [if_pos h0] at h
    by_cases h1 : i < n
    · rw [if_pos h1] at h
      have e : i.toNat = j := Option.some.inj h
      exact ⟨by rw [seqIndex_of h0 h1, e], by omega, by omega, h1⟩
    · rw [if_neg h1] at h; cases h
  · rw [if_neg h0] at h
    by_cases h1 : -(n : Int) ≤ i
    · rw [if_pos h1] at h
      have e : (i + n).toNat = j := Option.some.inj h
      exact ⟨by rw [seqIndex_neg (by omega) h1, e], by omega, h1, by omega⟩
    · rw [if_neg h1] at h; cases h
theorem atI_get {α : Type} {xs : List α} {i : Int} {v : α} (h : atI xs i = some v) : ∃ j, seqIndex? i xs.length = some j ∧ xs[j]? = some v ∧ j < xs.length ∧ -(xs.length : Int) ≤ i ∧ i < xs.length := by
  unfold atI at h
  cases e : ixN xs.length i with
  | none => rw [e] at h; cases h
  | some j =>
    rw [e] at h
    obtain ⟨h1, h2, h3, h4⟩ := ixN_seq e
    exact ⟨j, h1, h, h2, h3, h4⟩
theorem atI_nat {α : Type} {xs : List α} {j : Nat} {v : α} (h : xs[j]? = some v) : atI xs (j : Int) = some v := by
  have hj : j < xs.length := (List.getElem?_eq_some_iff.mp h).1
  have e : ixN xs.length (j : Int) = some j := by
    unfold ixN
    rw [if_pos (by omega), if_pos (by omega)]; simp
  unfold atI; rw [e]; exact h
theorem atI_last {α : Type} (xs : List α) (v : α) : atI (xs ++ [v]) (-1) = some v := by
  have hl : (xs ++ [v]).length = xs.length + 1 := by simp
  have e : ixN (xs ++ [v]).length (-1) = some xs.length := by
    unfold ixN
    rw [hl, if_neg (by decide), if_pos (by omega)]
    congr 1
    omega
  unfold atI
  rw [e]
  show (xs ++ [v])[xs.length]? = some v
  simp
def PlainIx (b : Expr) : Prop := ∀ o i, subscripted b false o i = operate [o, i] (getItem o i)
def IxR (X : Cx) (r : R2) : Prop :=
  ∀ (value slice : Expr) (pins : List (Addr × Obj)) (s : Shared) (σ : St) (H : Hp) (x y : V) (v u : Value) (Q : VK), Inv X pins σ H s → RelV x v → RelV y u → r x y H Q →
    subscripted slice false v u = operate [v, u] (getItem v u) → wpAny (model X.prog X.w) X.A (subscriptTail value slice v u) (EP X pins σ Q) X.xe s
def MtR (X : Cx) (id : String) (r : V → List V → Hp → VK → Prop) : Prop :=
  ∀ (pins : List (Addr × Obj)) (s : Shared) (σ : St) (H : Hp) (x : V) (xs : List V) (v : Value) (us : List Value) (Q : VK), Inv X pins σ H s → RelV x v → Vals xs us → r x xs H Q →
    wpAny (model X.prog X.w) X.A (call (.builtin id) (v :: us)) (EP X pins σ Q) X.xe s
section
variable {X : Cx} {a b : Expr} {ta tb : TE} {pos : Pos}
theorem pe_ix {r : R2} (hr : IxR X r) (ha : PE X a ta) (hb : PE X b tb) (hs : PlainIx b) : PE X (.Subscript a b pos) (tOp r ta tb) := by
  intro pins s σ H Q I h
  exact Subscript_ (binT ha hb I h fun v u s2 x y H2 I2 rx ry q => hr a b pins s2 σ H2 x y v u Q I2 rx ry q (hs _ _))
def rIxL (K : PySem.W.Frag) : R2 := fun x y H Q => ∃ p xs i v, x = .ref p ∧ y = .int i ∧ SqL K H p xs ∧ atI xs i = some v ∧ Q v H
def rIxT (K : PySem.W.Frag) : R2 := fun x y H Q => ∃ p xs i v, x = .ref p ∧ y = .int i ∧ SqT K H p xs ∧ atI xs i = some v ∧ Q v H
def rIxS : R2 := fun x y H Q => ∃ z i c, x = .str z ∧ y = .int i ∧ z.length ≤ sizeLine ∧ atI z.cps.toList i = some c ∧ Q (.str ⟨#[c]⟩) H
theorem ix_list : IxR X (rIxL X.K) := by
  intro value slice pins s σ H x y v u Q I rx ry h hs
  obtain ⟨p, xs, i, z, rfl, rfl, hq, he, q⟩ := h
  cases rx
  obtain ⟨t, rfl⟩ := ry
  obtain ⟨its, r, pl, hz⟩ := I.list hq
  obtain ⟨j, h1, h2, h3, h4, h5⟩ := atI_get he
  obtain ⟨w, ew, rw'⟩ := r.get h2
  have hl := r.length
  have hn := line63
  have fin : EP X pins σ Q w s := ⟨z, H, I, rw', q⟩
  by_cases h0 : 0 ≤ i
  · have hj : i.toNat = j := by
      rw [seqIndex_of h0 h5] at h1
      exact Option.some.inj h1
    exact item_listR pl.isList h0 (by omega) (by rw [hj]; simpa using ew) fin hs
  · have hj : (i + (its.toArray.size : Int)).toNat = j := by
      rw [seqIndex_neg (by omega) h4] at h1
      rw [List.size_toArray, ← hl]
      exact Option.some.inj h1
    exact subscriptTail_builtinR (x := w) pl.isList.typeIs slot_list_getitem.lookup
      (wpAny_getItem_list_neg (Q := fun r s' => r = w ∧ EP X pins σ Q r s') pl.isList (by omega) (by rw [List.size_toArray] <;> omega) (by omega) (by rw [hj]; simpa using ew) ⟨rfl, fin⟩) hs
theorem ix_tup : IxR X (rIxT X.K) := by
  intro value slice pins s σ H x y v u Q I rx ry h hs
  obtain ⟨p, xs, i, z, rfl, rfl, hq, he, q⟩ := h
  cases rx
  obtain ⟨t, rfl⟩ := ry
  obtain ⟨its, r, pl, hz⟩ := I.tuple hq
  obtain ⟨j, h1, h2, h3, h4, h5⟩ := atI_get he
  obtain ⟨w, ew, rw'⟩ := r.get h2
  have hl := r.length
  have hn := line63
  have fin : EP X pins σ Q w s := ⟨z, H, I, rw', q⟩
  exact subscriptTail_builtinR (x := w) pl.typeIs slot_tuple_getitem.lookup
    (getItem_tuple (j := j) (Q := fun r s' => r = w ∧ EP X pins σ Q r s') pl (by omega) (by omega) (by rw [List.size_toArray, ← hl]; exact h1) (by simpa using ew) ⟨rfl, fin⟩) hs
theorem ix_str : IxR X rIxS := by
  intro value slice pins s σ H x y v u Q I rx ry h hs
  obtain ⟨z, i, c, rfl, rfl, hz, he, q⟩ := h
  obtain ⟨t, rfl⟩ := rx
  obtain ⟨t', rfl⟩ := ry
  obtain ⟨j, h1, h2, h3, h4, h5⟩ := atI_get he
  have hl : z.cps.toList.length = z.length := by simp [Str.length]
  rw [hl] at h1 h4 h5
  have hn := line63
  exact tail_any (typeIs_str s z t) slot_str_getitem.lookup (getItem_str (c := c) (by
    have e1 : decide (i < -(2 ^ 63 : Int)) = false := decide_eq_false (by omega)
    have e2 : decide (i ≥ 2 ^ 63) = false := decide_eq_false (by omega)
    rw [e1, e2, Bool.or_false]) (by rw [h1]; simpa using h2) ⟨.str ⟨#[c]⟩, H, I.tok _, ⟨_, rfl⟩, q⟩) hs
theorem mapSeq_set (its : List Value) (n j : Nat) (u : Value) : Obj.mapSeq (·.setIfInBounds j u) { cls := .type "list", data := .seq its.toArray n } = { cls := .type "list", data := .seq (its.set j u).toArray n } := by
  simp [Obj.mapSeq]
theorem Inv.lst {pins : List (Addr × Obj)} {σ : St} {H : Hp} {s : Shared} {p : Addr} {xs : List V} (I : Inv X pins σ H s) (h : H p = some (.lst xs)) :
    ∃ (its : List Value) (n : Nat), Vals xs its ∧ s.heap.get? p = some { cls := .type "list", data := .seq its.toArray n } ∧ xs.length ≤ sizeLine := by
  obtain ⟨z, its, n, r, e⟩ := I.hok p _ h
  exact ⟨its, n, r, e, z⟩
theorem Inv.lstUpd {pins : List (Addr × Obj)} {σ : St} {H : Hp} {s : Shared} {p : Addr} {xs ys : List V} {its its' : List Value} {n n' : Nat} {f : Obj → Obj} (I : Inv X pins σ H s) (h : H p = some (.lst xs))
    (ho : s.heap.get? p = some { cls := .type "list", data := .seq its.toArray n }) (hf : f { cls := .type "list", data := .seq its.toArray n } = { cls := .type "list", data := .seq its'.toArray n' }) (r : Vals ys its') (hz : ys.length ≤ sizeLine) (t : Nat) :
    Inv X pins σ (upd H p (.lst ys)) { s with heap := s.heap.update p f, toks := t } := by
  have e : (s.heap.update p f).get? p = some { cls := .type "list", data := .seq its'.toArray n' } := by
    rw [Heap.get?_update_self f ho (by rw [hf] <;> rfl), hf]
  refine I.write (x := p) (e := p) (by rw [h]; trivial) (.inl rfl) (fun b u hb q => (Heap.get?_update_other _ _ (Ne.symm hb)).trans q) ⟨_, e⟩ ?_
  exact ⟨hz, its', n', r, e⟩
def rSetL : V → V → V → Hp → (Hp → Prop) → Prop := fun o i v H Q => ∃ p xs k j, o = .ref p ∧ i = .int k ∧ H p = some (.lst xs) ∧ ixN xs.length k = some j ∧ Q (upd H p (.lst (xs.set j v)))
theorem set_list : PSet X rSetL := by
  intro pins s σ H o i v ov iv u Q I ro ri rv h
  obtain ⟨p, xs, k, j, rfl, rfl, hp, hj, q⟩ := h
  cases ro
  obtain ⟨t, rfl⟩ := ri
  obtain ⟨its, n, r, ho, hz⟩ := I.lst hp
  obtain ⟨h1, h2, h3, h4⟩ := ixN_seq hj
  have hl := r.length
  have hn := line63
  have I' : Inv X pins σ (upd H p (.lst (xs.set j v))) { s with heap := s.heap.update p (Obj.mapSeq (·.setIfInBounds j u)) } :=
    I.lstUpd hp ho (mapSeq_set its n j u) (r.set rv j) (by rw [List.length_set]; exact hz) s.toks
  by_cases h0 : 0 ≤ k
  · have hk : k.toNat = j := by
      rw [seqIndex_of h0 h4] at h1
      exact Option.some.inj h1
    exact PySem.W.ki_setAt ho h0 (by omega) (by rw [List.size_toArray, ← hl]; exact h4) (by rw [hk]; exact ⟨_, I', q⟩)
  · have hk : (k + (its.toArray.size : Int)).toNat = j := by
      rw [seqIndex_neg (by omega) h3] at h1
      rw [List.size_toArray, ← hl]
      exact Option.some.inj h1
    exact PySem.W.ki_setBack ho (by omega) (by rw [List.size_toArray, ← hl]; exact h3) (by omega) (by rw [hk]; exact ⟨_, I', q⟩)
def flatV : V → Bool
  | .non => true
  | .bl _ => true
  | .int _ => true
  | .str _ => true
  | _ => false
def eqV : V → V → Bool
  | .non, .non => true
  | .bl a, .bl b => a == b
  | .bl a, .int b => (if a then 1 else 0) == b
  | .int a, .bl b => a == (if b then 1 else 0)
  | .int a, .int b => a == b
  | .str a, .str b => a == b
  | _, _ => false
theorem eqAt_V {A : Around} {s : Shared} {y x : V} {u v : Value} (ry : RelV y u) (rx : RelV x v) (fy : flatV y = true) (fx : flatV x = true) : SeqAt.EqAt A s u v (eqV y x) := by
  cases y with
  | non =>
    cases ry
    cases x with
    | non => cases rx; exact SeqAt.EqAt.same _
    | bl b => cases rx; exact SeqAt.EqAt.none_bool b
    | int b => obtain ⟨t, rfl⟩ := rx; exact SeqAt.EqAt.none_int b t
    | str b => obtain ⟨t, rfl⟩ := rx; exact SeqAt.EqAt.none_str b t
    | _ => exact absurd (show false = true from fx) Bool.false_ne_true
  | bl a =>
    cases ry
    cases x with
    | non => cases rx; exact SeqAt.EqAt.bool_none a
    | bl b => cases rx; exact SeqAt.EqAt.bool_bool a b
    | int b => obtain ⟨t, rfl⟩ := rx; exact SeqAt.EqAt.bool_int a b t
    | str b => obtain ⟨t, rfl⟩ := rx; exact SeqAt.EqAt.bool_str a b t
    | _ => exact absurd (show false = true from fx) Bool.false_ne_true
  | int a =>
    obtain ⟨t', rfl⟩ := ry
    cases x with
    | non => cases rx; exact SeqAt.EqAt.int_none a t'
    | bl b => cases rx; exact SeqAt.EqAt.int_bool a t' b
    | int b => obtain ⟨t, rfl⟩ := rx; exact SeqAt.EqAt.int_int a t' b t
    | str b => obtain ⟨t, rfl⟩ := rx; exact SeqAt.EqAt.int_str a t' b t
    | _ => exact absurd (show false = true from fx) Bool.false_ne_true
  | str a =>
    obtain ⟨t', rfl⟩ := ry
    cases x with
    | non => cases rx; exact SeqAt.EqAt.str_none a t'
    | bl b => cases rx; exact SeqAt.EqAt.str_bool a t' b
    | int b => obtain ⟨t, rfl⟩ := rx; exact SeqAt.EqAt.str_int a t' b t
    | str b => obtain ⟨t, rfl⟩ := rx; exact SeqAt.EqAt.str_str a t' b t
    | _ => exact absurd (show false = true from fx) Bool.false_ne_true
  | _ => exact absurd (show false = true from fy) Bool.false_ne_true
def eqU (x : V) (u : Value) : Bool := match u with
  | .none => eqV .non x
  | .bool b => eqV (.bl b) x
  | .int i _ => eqV (.int i) x
  | .str z _ => eqV (.str z) x
  | _ => false
theorem eqU_of {x y : V} {u : Value} (r : RelV y u) (f : flatV y = true) : eqU x u = eqV y x := by
  cases y with
  | non => cases r; rfl
  | bl b => cases r; rfl
  | int i => obtain ⟨t, rfl⟩ := r; rfl
  | str z => obtain ⟨t, rfl⟩ := r; rfl
  | _ => exact absurd (show false = true from f) Bool.false_ne_true
theorem mem_eqAt {A : Around} {s : Shared} {x : V} {v : Value} (rx : RelV x v) (fx : flatV x = true) : ∀ {xs : List V} {us : List Value}, Vals xs us → xs.all flatV = true → ∀ u ∈ us, SeqAt.EqAt A s u v (eqU x u)
  | _, _, .nil, _ => fun u hu => by cases hu
  | y :: xs, u :: us, .cons r t, f => fun u' hu => by
    rw [List.all_cons, Bool.and_eq_true] at f
    rcases List.mem_cons.mp hu with rfl | hu
    · rw [eqU_of r f.1]; exact eqAt_V r rx f.1 fx
    · exact mem_eqAt rx fx t f.2 u' hu
theorem call_len_seq : CallR X (.builtin "len") (fun xs H Q => ∃ p ys, xs = [.ref p] ∧ (SqL X.K H p ys ∨ SqT X.K H p ys) ∧ Q (.int ys.length) H) := by
  intro pins s σ H xs us Q I r h
  obtain ⟨p, ys, rfl, hq, q⟩ := h
  obtain ⟨u, rfl, rx⟩ := vals1 r
  cases rx
  have hn := line63
  rcases hq with hq | hq
  · obtain ⟨its, r', pl, hz⟩ := I.list hq
    have hlen := r'.length
    exact Calls.call_len_list pl.isList (by simp only [List.size_toArray] <;> omega) ⟨.int ys.length, H, I.tok _, ⟨s.toks + 1, by rw [List.size_toArray, hlen]⟩, q⟩
  · obtain ⟨its, r', pl, hz⟩ := I.tuple hq
    have hlen := r'.length
    exact len_tuple pl (by simp only [List.size_toArray] <;> omega) ⟨.int ys.length, H, I.tok _, ⟨s.toks + 1, by rw [List.size_toArray, hlen]⟩, q⟩
theorem call_len_str : CallR X (.builtin "len") (fun xs H Q => ∃ z, xs = [.str z] ∧ z.length ≤ sizeLine ∧ Q (.int z.length) H) := by
  intro pins s σ H xs us Q I r h
  obtain ⟨z, rfl, hz, q⟩ := h
  obtain ⟨u, rfl, t, rfl⟩ := vals1 r
  have hn := line63
  exact len_str (by omega) ⟨.int z.length, H, I.tok _, ⟨_, rfl⟩, q⟩
theorem call_tuple_of : CallR X (.type "tuple") (fun xs H Q => ∃ p ys, xs = [.ref p] ∧ ((SqL X.K H p ys ∧ ∀ l, H l = none → Q (.ref l) (upd H l (.tup ys))) ∨ (SqT X.K H p ys ∧ Q (.ref p) H))) := by
  intro pins s σ H xs us Q I r h
  obtain ⟨p, ys, rfl, h⟩ := h
  obtain ⟨u, rfl, rx⟩ := vals1 r
  cases rx
  rcases h with ⟨hq, q⟩ | ⟨hq, q⟩
  · obtain ⟨its, r', pl, hz⟩ := I.list hq
    have hlen := r'.length
    refine call_tuple_list pl.isList (fun h' kp => ?_) (by simp only [List.size_toArray] <;> omega)
    have I1 : Inv X pins σ H { s with heap := h' } := I.kept (t' := s.toks) kp
    have I2 : Inv X pins σ (upd H h'.objs.size (.tup ys)) { s with heap := h'.push { cls := .type "tuple", data := .seq its.toArray } } :=
      I1.laid (t' := s.toks) (fun b o e => Heap.get?_push_of_some _ e) (Nat.le_refl _) (show ObjOk X.prog X.w _ _ _ (.tup ys) from ⟨hz, its, r', IsTup.new _ _⟩)
    exact ⟨.ref h'.objs.size, _, I2, rfl, q _ (I1.hok.fresh (Nat.le_refl _))⟩
  · obtain ⟨its, r', pl, hz⟩ := I.tuple hq
    exact call_tuple_same pl ⟨.ref p, H, I, rfl, q⟩
def tyV (K : PySem.W.Frag) (T : String) (x : V) (H : Hp) : Prop := match x with
  | .str _ => T = "str"
  | .int _ => T = "int"
  | .ref p => (T = "list" ∧ ∃ xs, SqL K H p xs) ∨ (T = "tuple" ∧ ∃ o, K.lookup p = some o ∧ o.cls = .type "tuple" ∧ o.dict = none) ∨
      (T = "dict" ∧ ((∃ kvs, H p = some (.dK kvs)) ∨ ∃ kvs, H p = some (.dT kvs))) ∨ (T = "set" ∧ ∃ S n, H p = some (.set S n))
  | _ => False
theorem tyV_is {pins : List (Addr × Obj)} {σ : St} {H : Hp} {s : Shared} {T : String} {x : V} {v : Value} (I : Inv X pins σ H s) (r : RelV x v) (ty : tyV X.K T x H) :
    s.TypeIs v T ∧ ∀ a, v = .ref a → ∃ ob, s.heap.get? a = some ob ∧ ob.dict = none := by
  cases x with
  | str z =>
    obtain ⟨t, rfl⟩ := r
    cases (show T = "str" from ty)
    exact ⟨typeIs_str s z t, fun _ e => nomatch e⟩
  | int i =>
    obtain ⟨t, rfl⟩ := r
    cases (show T = "int" from ty)
    exact ⟨typeIs_int s i t, fun _ e => nomatch e⟩
  | ref p =>
    cases r
    rcases ty with ⟨rfl, xs, hq⟩ | ⟨rfl, o, hk, hc, hd⟩ | ⟨rfl, hk⟩ | ⟨rfl, S, n, hk⟩
    · obtain ⟨its, _, pl, _⟩ := I.list hq
      refine ⟨pl.isList.typeIs, fun a e => ?_⟩
      cases e
      obtain ⟨o, n, e, c, hd, _⟩ := pl
      exact ⟨o, e, hd⟩
    · refine ⟨⟨o, I.kIn p o hk, hc⟩, fun a e => ?_⟩
      cases e
      exact ⟨o, I.kIn _ o hk, hd⟩
    · have z : ∃ o, s.heap.get? p = some o ∧ o.ExactDict := by
        rcases hk with ⟨kvs, hk⟩ | ⟨kvs, hk⟩
        · obtain ⟨_, _, _, _, o, _, _, e, ex, _⟩ := I.hok p _ hk
          exact ⟨o, e, ex⟩
        · exact False.elim (show ObjOk X.prog X.w H s.heap p (.dT kvs) from I.hok p _ hk)
      obtain ⟨o, e, ex⟩ := z
      refine ⟨⟨o, e, ex.1⟩, fun a e2 => ?_⟩
      cases e2
      exact ⟨o, e, ex.2.1⟩
    · obtain ⟨o, _, _, _, e, ex, _⟩ := I.hok p _ hk
      refine ⟨⟨o, e, ex.1⟩, fun a e2 => ?_⟩
      cases e2
      exact ⟨o, e, ex.2.1⟩
  | _ => exact False.elim ty
def tBM (K : PySem.W.Frag) (T : String) (r : V → List V → Hp → VK → Prop) (to : TE) (t : TA) : TE := fun σ H Q => to σ H fun x H1 => tyV K T x H1 ∧ t σ H1 fun xs H2 => r x xs H2 Q
variable {o e : Expr} {es : List Expr} {to : TE} {t : TA} {name : Str} {apos cpos : Pos} {T id : String} {r : V → List V → Hp → VK → Prop}
theorem pe_bm (pa : PlainAttrs T) (slot : Slot T name id) (hty : typeOf (.builtin id) = pure (.type "method_descriptor")) (hm : MtR X id r) (ho : PE X o to) (ha : PA X (e :: es) t)
    (hbase : attributeBase o name X.env (eval o X.env) = eval o X.env := by rfl)
    (hfew : ((backTo cpos (starEach (e :: es) X.env)).all (fun x => !x.1) && (backToKw cpos (keywordEach [] X.env)).all (fun x => x.1.isSome)
      && decide ((e :: es).length + ([] : List Keyword).length + (if ([] : List Keyword).isEmpty then 0 else 1) < 30)) = true := by rfl)
    (hline : (apos.endLine == cpos.line) = true := by rfl) (hs : starEach (e :: es) X.env = (false, eval e X.env) :: starEach es X.env := by rfl) (hplain : (backTo cpos (starEach es X.env)).any (·.1) = false := by rfl) :
    PE X (.Call (.Attribute o name apos) (e :: es) [] cpos) (tBM X.K T r to t) := by
  intro pins s σ H Q I h
  refine wpAny_Call_method_late hbase hfew hline rfl (thn (ho pins s σ H _ I h) fun v s1 ⟨x, H1, I1, r1, ty, q1⟩ => ?_)
  obtain ⟨h1, h2⟩ := tyV_is I1 r1 ty
  refine ⟨T, id, pa, slot, hty, h1, h2, ?_⟩
  have hA := ha cpos pins s1 σ H1 _ I1 q1
  rw [hs] at hA ⊢
  refine Calls.callWith_builtin (by show (false || (backTo cpos (starEach es X.env)).any (·.1)) = false; rw [hplain] <;> rfl) (Calls.evalArgs_plain ?_)
  exact thn hA fun us s2 ⟨vs, H2, I2, r2, q2⟩ => hm pins s2 σ H2 x vs v us Q I2 r1 r2 q2
/- xs.append(e), list.index on a module's tuple .. are MtR facts of 06m -/
end
end L2
namespace L2
open PySem PySem.Spec PyProof.Rows
def MtM (X : Cx) (id : String) (r : V → List V → Hp → VK → Prop) : Prop :=
  ∀ (pins : List (Addr × Obj)) (s : Shared) (σ : St) (H : Hp) (x : V) (xs : List V) (v : Value) (us : List Value) (Q : VK), Inv X pins σ H s → RelV x v → Vals xs us → r x xs H Q →
    wpAny (model X.prog X.w) X.A (call (.builtin id) (v :: us)) (EP X pins σ Q) X.xe s
theorem Vals.one : ∀ {x : V} {us : List Value}, Vals [x] us → ∃ u, us = [u] ∧ RelV x u
  | _, _, .cons r .nil => ⟨_, rfl, r⟩
theorem Vals.two : ∀ {x y : V} {us : List Value}, Vals [x, y] us → ∃ u v, us = [u, v] ∧ RelV x u ∧ RelV y v
  | _, _, _, .cons r (.cons q .nil) => ⟨_, _, rfl, r, q⟩
section
variable {X : Cx} {pins : List (Addr × Obj)} {σ : St} {H : Hp} {s : Shared} {l b : Addr} {xs ys zs : List V}
theorem Inv.lset {its its' : List Value} {n : Nat} {f : Array Value → Array Value} {t' : Nat} (I : Inv X pins σ H s) (hH : H l = some (.lst xs))
    (e : s.heap.get? l = some { cls := .type "list", data := .seq its.toArray n }) (hf : f its.toArray = its'.toArray) (hv : Vals ys its') (hz : ys.length ≤ sizeLine) :
    Inv X pins σ (upd H l (.lst ys)) { s with heap := s.heap.update l (Obj.mapSeq f), toks := t' } := by
  have q := PySem.IsL.update e f
  rw [hf] at q
  refine I.write (x := l) (e := l) (by rw [hH]; exact trivial) (.inl rfl) (fun b' u hb hu => (Heap.get?_update_other s.heap (Obj.mapSeq f) (Ne.symm hb)).trans hu) ⟨_, q⟩ ?_
  exact ⟨hz, its', _, hv, q⟩
theorem Inv.lnew {its : List Value} {t' : Nat} (I : Inv X pins σ H s) (hv : Vals ys its) (hz : ys.length ≤ sizeLine) :
    Inv X pins σ (upd H s.heap.objs.size (.lst ys)) { s with heap := s.heap.push { cls := .type "list", data := .seq its.toArray }, toks := t' } :=
  I.laid (fun _ _ q => Heap.get?_push_of_some _ q) (Nat.le_refl _) ⟨hz, its, 0, hv, Heap.get?_push_size _ rfl⟩
theorem Inv.fresh (I : Inv X pins σ H s) : H s.heap.objs.size = none := I.hok.fresh (Nat.le_refl _)
theorem Inv.lstM (I : Inv X pins σ H s) (hH : H l = some (.lst xs)) : xs.length ≤ sizeLine ∧ ∃ (its : List Value) (n : Nat), Vals xs its ∧ xs.length = its.length ∧ s.heap.get? l = some { cls := .type "list", data := .seq its.toArray n } := by
  obtain ⟨z, its, n, r, e⟩ := I.hok l _ hH
  exact ⟨z, its, n, r, r.length, e⟩
theorem notLongL {n : Nat} (h : n ≤ sizeLine) : Builtin.List.listTooLong n = false := by
  unfold Builtin.List.listTooLong
  exact decide_eq_false (by omega)
end
section
variable {X : Cx}
def rAppend : V → List V → Hp → VK → Prop := fun x vs H Q => ∃ l xs y, x = .ref l ∧ vs = [y] ∧ H l = some (.lst xs) ∧ xs.length < sizeLine ∧ Q .non (upd H l (.lst (xs ++ [y])))
theorem mt_append : MtM X "list.append" rAppend := by
  intro pins s σ H x vs v us Q I rx rv h
  obtain ⟨l, xs, y, rfl, rfl, hH, hz, q⟩ := h
  cases rx
  obtain ⟨u, rfl, ru⟩ := rv.one
  obtain ⟨z, its, n, r, hl, e⟩ := I.lstM hH
  refine call_meets F.slot_list_append ⟨_, e, rfl⟩ F.entry_list_append (F.args_list_append_2 _ _) (PySem.list_append l its.toArray n u (by rw [List.size_toArray]; omega)) ⟨e, ?_⟩
  refine ⟨.non, _, I.lset (its' := its ++ [u]) hH e (by simp) (r.append (.cons ru .nil)) ?_, rfl, q⟩
  rw [List.length_append, List.length_singleton]
  omega
def rExtend : V → List V → Hp → VK → Prop := fun x vs H Q => ∃ l b xs zs, x = .ref l ∧ vs = [.ref b] ∧ H l = some (.lst xs) ∧ H b = some (.lst zs) ∧ xs.length + zs.length ≤ sizeLine ∧ Q .non (upd H l (.lst (xs ++ zs)))
theorem mt_extend : MtM X "list.extend" rExtend := by
  intro pins s σ H x vs v us Q I rx rv h
  obtain ⟨l, b, xs, zs, rfl, rfl, hH, hB, hz, q⟩ := h
  cases rx
  obtain ⟨u, rfl, ru⟩ := rv.one
  cases ru
  obtain ⟨z, its, n, r, hl, e⟩ := I.lstM hH
  obtain ⟨z2, its2, n2, r2, hl2, e2⟩ := I.lstM hB
  have hsz : its.toArray.size + its2.toArray.size ≤ sizeLine := by rw [List.size_toArray, List.size_toArray]; omega
  have hlong : ¬ (!its.toArray.isEmpty && Builtin.List.listTooLong (its.toArray.size + its2.toArray.size)) = true := by
    rw [notLongL hsz, Bool.and_false]
    exact Bool.false_ne_true
  refine call_meets F.slot_list_extend ⟨_, e, rfl⟩ F.entry_list_extend (F.args_list_extend_2 _ _)
    (AutoSeq1.list_extend_list_list_0 l its.toArray n b its2.toArray n2 hlong (by rw [List.size_toArray]; omega) (by omega)) ⟨e, e2, ?_⟩
  refine ⟨.non, _, I.lset (its' := its ++ its2) hH e (by simp) (r.append r2) ?_, rfl, q⟩
  rw [List.length_append]
  omega
def rCat : R2 := fun x y H Q => ∃ l b xs zs, x = .ref l ∧ y = .ref b ∧ H l = some (.lst xs) ∧ H b = some (.lst zs) ∧ xs.length + zs.length ≤ sizeLine ∧ ∀ p, H p = none → Q (.ref p) (upd H p (.lst (xs ++ zs)))
theorem op_cat : OpR X (binaryOp .Add) rCat := by
  intro pins s σ H x y v u Q I rx ry h
  obtain ⟨l, b, xs, zs, rfl, rfl, hH, hB, hz, q⟩ := h
  cases rx
  cases ry
  obtain ⟨z, its, n, r, hl, e⟩ := I.lstM hH
  obtain ⟨z2, its2, n2, r2, hl2, e2⟩ := I.lstM hB
  refine PySem.P.add_list e e2 ?_ (by rw [List.size_toArray, List.size_toArray]; omega)
  have ea : its.toArray ++ its2.toArray = (its ++ its2).toArray := by simp
  rw [ea]
  exact ⟨.ref _, _, I.lnew (t' := s.toks) (r.append r2) (by rw [List.length_append]; omega), rfl, q _ I.fresh⟩
end
section
variable {prog : Program} {w : World} {A : Around} {E : Value → Shared → Prop} {s : Shared}
set_option maxRecDepth 100000 in
end
section
variable {X : Cx}
end
end L2
namespace Att
open PySem PySem.W PySem.Calls PyProof.Rows
theorem ints_of_wellAll {P : Params} {h : Heap} : ∀ (ns : List Int) (vs : List Value), WellAll P h vs (ns.map WData.int) → IntsAre vs ns := by
  intro ns
  induction ns with
  | nil =>
    intro vs w
    rw [List.map_nil] at w
    cases w
    exact .nil
  | cons n ns ih =>
    intro vs w
    rw [List.map_cons] at w
    cases w with
    | cons a b =>
      cases a
      exact .cons _ _ (ih _ b)
theorem script_of {l : OpenLaw} {n : Nat} (hn : l.most = some n) {P : Params} {h : Heap} {args : List WData} {vals : List Value}
    (hpre : l.row.toRowW.claim.pre args = true) (hwl : WellAll P h vals args) :
    ∃ a vs ns, vals = [Value.ref a] ∧ args = [WData.list (ns.map WData.int)] ∧ h.get? a = some { cls := .type "list", data := .seq vs.toArray } ∧ IntsAre vs ns ∧ ns.length ≤ n := by
  have hsh : WShape.hasAll [] args [.list .int] = true := (pre_splitW hpre).1
  have hc : l.pre.holds [] { args := args } = true := (pre_splitW hpre).2
  obtain ⟨d, r, rfl, h1, h2⟩ := hasAllW_cons hsh
  obtain rfl := hasAllW_nil h2
  obtain ⟨xs, rfl, h3⟩ := hasW_list h1
  obtain ⟨ns, rfl⟩ := items_int h3
  have hlen : ns.length ≤ n := by
    unfold OpenLaw.pre at hc
    have h4 : (WTm.not (.lt (.lit (.int (n : Int))) (.len (.arg 0)))).holds [] { args := [.list (ns.map .int)] } = true := by
      have h4 := (holds_andW hc).1
      rw [hn] at h4
      exact h4
    have h5 := condW_of h4 (w_not (w_lt w_lit (w_len_list (w_arg rfl))))
    rw [List.length_map] at h5
    refine Nat.le_of_not_lt fun q => ?_
    have q' : (n : Int) < ((ns.length : Nat) : Int) := by omega
    first
      | (rw [decide_eq_true q'] at h5; exact absurd h5 (by decide))
      | (simp at h5; omega)
  cases hwl with
  | cons w1 w2 =>
    cases w2
    cases w1 with
    | list ho hall => exact ⟨_, _, ns, rfl, rfl, ho, ints_of_wellAll ns _ hall, hlen⟩
theorem post_true (l : OpenLaw) (args : List WData) : l.row.toRowW.claim.post args (.bool true) args = true :=
  postW_of (r := l.row.toRowW) (X := (true == true))
    (show WShape.has [] (.bool true) .bool = true by first | rfl | decide | simp [WShape.has, WShape.arms, WShape.armsAll])
    (show (WTm.eq .res (.lit (.bool true))).value [] { args := args, res := some (.bool true), after := args } = some (.bool (true == true)) from w_eq_bool (w_res rfl) w_lit) rfl
section
variable {prog : Program} {w : World} {A : Around} {E : Value → Shared → Prop} {s : Shared} {K : Frag}
end
end Att
namespace L2
open PySem PySem.Spec PyProof.Rows
theorem vals_ints : ∀ {vs : List Value} {ns : List Int}, IntsAre vs ns → Vals (ns.map V.int) vs
  | _, _, .nil => .nil
  | _, _, .cons n t h => .cons ⟨t, rfl⟩ (vals_ints h)
def Only (H : Hp) : Prop := ∀ b, H b = none ∨ ∃ o xs, H b = some (.frz o (.lst xs))
theorem law_call {P : Program} {w : World} {K : PySem.W.Frag} {mg mb : Str → Option Value} {CX : CXT} {k : Nat} {fa a : Addr} {fd : FuncData} {x : Str} {sp : Sp} {s₁ : Shared} {vs : List Value} {ns : List Int}
    (KX : K.In s₁.heap) (hns : s₁.heap.Ns mainGlobals mg) (hb : s₁.heap.Ns builtinsNs mb) (hbb : ∀ x : Str, x ≠ "__name__" → mb x = bootBuiltins x) (hlim : s₁.heap.NoLimit) (hg : s₁.gens = #[])
    (ha : s₁.heap.get? a = some { cls := .type "list", data := .seq vs.toArray }) (hi : IntsAre vs ns) (hl : ns.length ≤ sizeLine) (hr : Room k callerA)
    (F : ∀ base : Heap, K.In base → base.Ns mainGlobals mg → FnOk P w K mg base CX k fa fd [x] sp) (hbind : ∀ (s : Shared) (u : Value), BindsTo s fd ⟨[u], []⟩ [(x, u)])
    (hsp : ∀ H : Hp, Only H → SqL K H a (ns.map V.int) → sp [.ref a] H (fun v _ => v = .bl true) fun _ _ _ => False)
    (hCX : ∀ H e s', CX [] H s₁ (fun _ _ _ => False) e s' → False) :
    codeAny (model P w) callerA (.call (.ref fa) ⟨[.ref a], []⟩) (fun r s' => r = .ok (.ret (.bool true)) ∧ OldK s₁.heap s'.heap ∧ s'.os = s₁.os ∧ AllBare s'.gens) s₁ := by
  have rv := vals_ints hi
  have lenV := hi.length
  -- from an abstract heap in which nothing but the script may be tracked
  have core : ∀ H : Hp, Only H → SqL K H a (ns.map V.int) → HOk P w H s₁.heap → (∀ b, H b ≠ none → b = a) → (H a ≠ none → K.lookup a = none) →
      codeAny (model P w) callerA (.call (.ref fa) ⟨[.ref a], []⟩) (fun r s' => r = .ok (.ret (.bool true)) ∧ OldK s₁.heap s'.heap ∧ s'.os = s₁.os ∧ AllBare s'.gens) s₁ := by
    intro H hO hS hok hA hK
    have base_of : ∀ {b : Addr} {o : Obj}, s₁.heap.get? b = some o → H b = none → (hidT s₁.heap H).get? b = some o := fun e n => hidT_get e n
    have noA : ∀ {b : Addr} {o : Obj} {es : Array DictEntry} {ep : Nat}, s₁.heap.get? b = some o → o.data = .dict es ep → H b = none := fun {b o es ep} e d => by
      cases q : H b with
      | none => rfl
      | some u =>
        have e' : b = a := hA b (by rw [q]; simp)
        subst e'
        rw [ha] at e; cases e
        have d' : Data.seq vs.toArray _ = Data.dict es ep := d
        cases d'
    have nsK : ∀ {b : Addr} {m : Str → Option Value}, s₁.heap.Ns b m → (hidT s₁.heap H).Ns b m := fun {b m} ⟨o, es, ep, e, d, r⟩ => ⟨o, es, ep, base_of e (noA e d), d, r⟩
    have hKb : K.In (hidT s₁.heap H) := fun b o e => base_of (KX b o e) (by
      cases q : H b with
      | none => rfl
      | some u =>
        have e' : b = a := hA b (by rw [q]; simp)
        subst e'
        rw [hK (by rw [q]; simp)] at e; cases e)
    have hM : Mod K mg (hidT s₁.heap H) := ⟨hKb, nsK hns, ⟨mb, nsK hb, hbb⟩, let ⟨mc, h1, h2⟩ := hlim; ⟨mc, nsK h1, h2⟩⟩
    have e0 : Env0 P w K mg (hidT s₁.heap H) callerA [] s₁ H := ⟨rfl, hM, fun b o e => of_hidT e, Nat.le_of_eq (hidT_size _ _), trivial, fun b hb => absurd (show b ∈ ([] : List Addr) from hb) (by simp), hok, .of_eq hg⟩
    refine codeAny_mono ((F _ hKb (nsK hns)).run callerA [] s₁ H ⟨[.ref a], []⟩ [.ref a] [.ref a] _ _ hr e0 (hbind s₁ (.ref a)) (.cons rfl .nil) (hsp H hO hS)) fun r s' h => ?_
    cases r with
    | error e => exact (hCX H e s' h).elim
    | ok fl =>
      cases fl with
      | next => exact False.elim h
      | brk => exact False.elim h
      | cont => exact False.elim h
      | ret u =>
        obtain ⟨v, H', os, bare, un, hok', r', q⟩ := h
        have q' : v = .bl true := q
        subst q'
        obtain rfl : u = Value.bool true := r'
        refine ⟨rfl, OldK.of_keep fun b o e => ?_, os, bare⟩
        cases q : H b with
        | none => exact un.keep b o e q (by intro z; exact absurd (show b ∈ ([] : List Addr) from z) (by simp)) (by simp)
        | some u =>
          rcases hO b with z | ⟨ob, xs, z⟩
          · rw [q] at z; cases z
          · have z2 := un.frzs b ob _ z
            obtain ⟨e1, _⟩ := hok b _ z
            obtain ⟨e2, _⟩ := hok' b _ z2
            rw [e] at e1; cases e1
            exact e2
  cases hk : K.lookup a with
  | some o =>
    -- the script is one of the module's own objects
    have e := KX a o hk
    rw [ha] at e
    cases e
    refine core (fun _ => none) (fun _ => .inl rfl) (.inr ⟨_, vs.toArray, _, hk, rfl, rfl, rfl, by rw [List.size_toArray, lenV]; exact hl, by simpa using rv⟩) (fun b u z => by have z' : (none : Option HO) = some u := z; cases z') (fun b z => absurd rfl z) fun z => absurd rfl z
  | none =>
    refine core (fun b => if b = a then some (.frz { cls := .type "list", data := .seq vs.toArray } (.lst (ns.map V.int))) else none) (fun b => ?_) (.inl (.inr ⟨{ cls := .type "list", data := .seq vs.toArray }, if_pos rfl⟩)) (fun b u z => ?_) (fun b z => ?_) fun _ => hk
    · by_cases hb : b = a
      · exact .inr ⟨_, _, if_pos hb⟩
      · exact .inl (if_neg hb)
    · by_cases hb : b = a
      · have z' := (if_pos hb).symm.trans z
        cases z'
        subst hb
        exact ⟨ha, by rw [List.length_map]; exact hl, vs, _, rv, ha⟩
      · have z' := (if_neg hb).symm.trans z
        cases z'
    · by_cases hb : b = a
      · exact hb
      · exact absurd (if_neg hb) z
end L2
namespace L2
open PySem PySem.Spec PyProof.Rows
end L2
/- THE LAST THEOREM (shape; LID, My.* are yours):
   My.Adr: a structure of the addresses that your layer names (classes, functions); My.Txt K t: a structure (Prop) of the equations over K;
   My.txt_mk : {K} {implicit addresses ..} (e1 : nsIn K mainGlobals "law" = some (some (.ref f))) (e2 : K.lookup f = some ⟨oc, od, .func (fnOf "law" "law" params body scope dV kV doc pm an cdv ct), sl⟩) (e3 : codeIn K cdv "law" = true) .. : ∃ t, My.Txt K t
set_option maxRecDepth 100000 in
set_option maxHeartbeats 0 in
theorem PySem.Challenge.cw_LID_holds : PySem.Challenge.rw_LID.Holds := by
  w_on; o_law; k_head; (case hw => w_witness2)
  k_fill
  refine L2.walk_of (l := PySem.Challenge.rw_LID) (n := 63) (k := 40) (x := "script") (CX := fun w => ..) (sp := fun _ => My.sp_law) rfl (by decide) rfl ⟨rfl, by decide, by decide⟩ (fun w h Y => PySem.W.kIn_of Y) ?F ?S ?C
  case F =>
    intro w mg fa h KX G hmg
    have T : ∃ t, My.Txt (L2.KOf KX) t := by
      dsimp only [L2.KOf]                          -- K must stand as «<heap const> w.params» for k_is
      refine' My.txt_mk ?e1 ?e2 ?e3 ..
      (case e1 => PySem.W.k_is)                    -- in the order: a name -> its address -> its object -> its parts
      (case e2 => PySem.W.k_is)
      ..
    obtain ⟨t, T⟩ := T
    have e0 := hmg.symm.trans (PySem.W.mg_of KX G T.law)
    cases e0                                       -- fa is the law's own address
    exact ⟨_, fun s u => .of_eq rfl, fun base kb nb => My.law_fn T kb nb⟩     -- if «.of_eq rfl» comes too early: refine' ⟨_, ?b, fun base kb nb => My.law_fn T kb nb⟩; exact fun s u => .of_eq rfl
  case S => exact fun w H a ns hl hO hS => ..
  case C => exact ..
(the tactic k_is has no namespace: write k_is) -/
namespace L2
open PySem PySem.Spec PyProof.Rows
def defArgs (s : Stmt) : Arguments := match s with
  | .FunctionDef _ a _ _ _ _ _ _ _ _ => a
  | _ => { posonlyargs := [], args := [], vararg := none, kwonlyargs := [], kw_defaults := [], kwarg := none, defaults := [] }
def defBody (s : Stmt) : List Stmt := match s with
  | .FunctionDef _ _ b _ _ _ _ _ _ _ => b
  | _ => []
def defScope (s : Stmt) : Scope := match s with
  | .FunctionDef _ _ _ _ _ _ sc _ _ _ => sc
  | _ => { kind := .function, names := [], isGenerator := false, isCoroutine := false }
abbrev CX0 : CXT := fun _ _ _ _ _ _ => False
abbrev E0 : XK := fun _ _ _ => False
theorem pass0 {X : Cx} : Passes CX0 X E0 := fun _ _ _ _ _ _ _ h => h.elim
structure Fun (K : PySem.W.Frag) (x qual : Str) (st : Stmt) (f : Addr) (fd : FuncData) : Prop where
  ex : ∃ (oc : Value) (od : Option Addr) (kV doc pm : Value) (an : Option Addr) (cdv ct : Value) (osl : Array (Option Value)),
    fd = PySem.W.fnOf x qual (defArgs st) (defBody st) (defScope st) .none kV doc pm an cdv ct ∧ K.lookup f = some ⟨oc, od, .func fd, osl⟩ ∧ PySem.W.codeIn K cdv qual = true
  kp : PySem.W.keepIn K (.ref f) = true
section
variable {P : Program} {w : World} {K : PySem.W.Frag} {mg : Str → Option Value} {base : Heap}
theorem Fun.ok {x qual : Str} {st : Stmt} {f : Addr} {fd : FuncData} {N ps : List Str} {k : Nat} {sp : Sp} (F : Fun K x qual st f fd) (S : FnScope N ps (defScope st)) (len : ∀ vs H Q E, sp vs H Q E → vs.length = ps.length)
    (hbody : ∀ (cdv : Value) (A : Around) (outer : List Env) (s : Shared) (H : Hp) (vs : List V) (Q : VK) (E : XK), Room k (A.deeper (envOfC qual (defScope st) s.heap.objs.size f cdv)) → sp vs H Q E →
      ∃ t, PSs (cxOf CX0 P w K mg base N qual (defScope st) f cdv A outer s H E).nox (defBody st) t ∧ t { nx := fun _ H' => Q .non H', rt := Q } (start N vs) H) : FnOk P w K mg base CX0 (k + 1) f fd ps sp := by
  obtain ⟨oc, od, kV, doc, pm, an, cdv, ct, osl, rfl, lk, hcd⟩ := F.ex
  refine fn_of lk hcd S len fun A outer s H vs Q E hr hsp => ?_
  obtain ⟨t, h, q⟩ := hbody cdv A outer s H vs Q E hr hsp
  exact ⟨t, h.nox, q⟩
theorem Fun.binds {x qual : Str} {st : Stmt} {f : Addr} {fd : FuncData} {ps : List Str} (F : Fun K x qual st f fd)
    (h : ∀ (kV doc pm : Value) (an : Option Addr) (cdv ct : Value) (us : List Value), us.length = ps.length → bindArgs (PySem.W.fnOf x qual (defArgs st) (defBody st) (defScope st) .none kV doc pm an cdv ct) ⟨us, []⟩ = pure (ps.zip us)) : Binds K fd ps [] := by
  obtain ⟨oc, od, kV, doc, pm, an, cdv, ct, osl, rfl, lk, hcd⟩ := F.ex
  exact .all (h kV doc pm an cdv ct)
theorem fun_mk {x qual : Str} {st : Stmt} {f : Addr} {oc : Value} {od an : Option Addr} {osl : Array (Option Value)} {kV doc pm cdv ct : Value} (l : K.lookup f = some ⟨oc, od, .func (PySem.W.fnOf x qual (defArgs st) (defBody st) (defScope st) .none kV doc pm an cdv ct), osl⟩)
    (c : PySem.W.codeIn K cdv qual = true) (k : PySem.W.keepIn K (.ref f) = true) : Fun K x qual st f (PySem.W.fnOf x qual (defArgs st) (defBody st) (defScope st) .none kV doc pm an cdv ct) := ⟨⟨oc, od, kV, doc, pm, an, cdv, ct, osl, rfl, l, c⟩, k⟩
end
section
variable {X : Cx}
theorem pv (i : Nat) {x : Str} {pos : Pos} (hN : X.N[i]? = some x := by rfl) (hv : Vis X.env.scope x := by first | exact Or.inl rfl | exact Or.inr (Or.inl rfl) | exact Or.inr (Or.inr rfl)) (hd : (x == ("__debug__" : Str)) = false := by decide)
    (hcd : (x == ("__classdict__" : Str)) = false := by decide) : PE X (.Name x pos) (tVar i) := pe_var hN hv hd hcd
end
theorem iteF {A B : Prop} (h : B) : if false = true then A else B := by
  rw [if_neg Bool.false_ne_true]
  exact h
theorem iteT {A B : Prop} (h : A) : if true = true then A else B := by
  rw [if_pos rfl]
  exact h
theorem ite2 {c A B : Prop} [Decidable c] (h1 : c → A) (h2 : ¬ c → B) : if c then A else B := by
  by_cases h : c
  · rw [if_pos h]
    exact h1 h
  · rw [if_neg h]
    exact h2 h
theorem iteNS {c A B : Prop} [Decidable c] (hc : c) (h : B) : if (!decide c) = true then A else B := by
  rw [decide_eq_true hc]
  exact iteF h
def Same (H H' : Hp) : Prop := ∀ b o, H b = some o → H' b = some o
theorem Same.refl (H : Hp) : Same H H := fun _ _ h => h
theorem Same.trans {H H1 H2 : Hp} (a : Same H H1) (b : Same H1 H2) : Same H H2 := fun c o h => b c o (a c o h)
theorem Same.free {H H' : Hp} (e : Same H H') {l : Addr} (h : H' l = Option.none) : H l = Option.none := by
  cases q : H l with
  | none => rfl
  | some o =>
    rw [e l o q] at h
    cases h
theorem Same.seq {K : PySem.W.Frag} {H H' : Hp} {a : Addr} {xs : List V} (e : Same H H') (h : SqL K H a xs) : SqL K H' a xs := by
  rcases h with (h | ⟨o, h⟩) | h
  · exact .inl (.inl (e _ _ h))
  · exact .inl (.inr ⟨o, e _ _ h⟩)
  · exact .inr h
end L2
set_option Elab.async false
set_option linter.all false
set_option maxRecDepth 100000
set_option maxHeartbeats 4000000
namespace L3
open PySem PySem.Spec PyProof.Rows L2
theorem same_upd {H : Hp} {p : Addr} {o : HO} (h : H p = none) : Same H (upd H p o) := fun b u e => by
  rw [upd_ne (ne_of_none e h)]; exact e
theorem same_to {H H' : Hp} {p : Addr} {o : HO} (s : Same H H') (h : H p = none) : Same H (upd H' p o) := fun b u e => by
  rw [upd_ne (ne_of_none e h)]; exact s b u e
def newO : HO → Prop
  | .lst _ => True
  | .tup _ => True
  | _ => False
def Rst (H H' : Hp) (P : Hp → Prop) : Prop := ∃ Hr, Same H Hr ∧ Same Hr H' ∧ (∀ a o, Hr a = some o → H a = some o ∨ newO o) ∧ P Hr
theorem Rst.same {H H' : Hp} {P : Hp → Prop} (s : Same H H') (p : P H) : Rst H H' P := ⟨H, Same.refl H, s, fun _ _ e => .inl e, p⟩
section
variable {P : Program} {w : World} {H Hr H' : Hp} {h h' : Heap}
theorem objOk_rst {a : Addr} {o : HO} (s1 : Same H Hr) (x0 : ObjOk P w H h a o) (x : ObjOk P w H' h' a o) : ObjOk P w Hr h' a o := by
  induction o with
  | ins C dx fs => exact ⟨s1 _ _ x0.1, x.2⟩
  | frz ob u ih => exact ⟨x.1, ih x0.2 x.2⟩
  | lst xs => exact x
  | tup xs => exact x
  | dK kvs => exact x
  | dT kvs => exact x
  | set S n => exact x
  | own y => exact x
  | xd fs => exact x
  | rng lo hi => exact x
  | tbl ps => exact x
  | met f y => exact x
  | ext φ => exact x
theorem hok_rst (e0 : HOk P w H h) (k : HOk P w H' h') (s1 : Same H Hr) (s2 : Same Hr H') (hn : ∀ a o, Hr a = some o → H a = some o ∨ newO o) : HOk P w Hr h' := fun a o e => by
  have x := k a o (s2 a o e)
  rcases hn a o e with z | z
  · exact objOk_rst s1 (e0 a o z) x
  · cases o with
    | lst xs => exact x
    | tup xs => exact x
    | _ => exact False.elim z
theorem un_rst {fs ex : List Addr} (u : Un fs ex H H' h h') (s1 : Same H Hr) (s2 : Same Hr H') : Un fs ex H Hr h h' where
  keep := u.keep
  slot := u.slot
  free := fun b o e n hx => s2.free (u.free b o e n hx)
  there := u.there
  tups := fun b xs e => s1 b _ e
  frzs := fun b o x e => s1 b _ e
  tbls := fun b ps e => ⟨#[], by rw [s1 b _ e]; simp⟩
end
section
variable {P : Program} {w : World} {K : PySem.W.Frag} {mg : Str → Option Value} {base : Heap} {CX : CXT} {k : Nat} {f : Addr} {fd : FuncData} {ps : List Str} {sp : Sp}
def SpR (sp : Sp) : Sp := fun vs H Q2 E => ∃ Q : VK, (∀ v H', Rst H H' (Q v) → Q2 v H') ∧ sp vs H Q E
theorem FnOk.rst (F : FnOk P w K mg base CX k f fd ps (SpR sp)) : FnOk P w K mg base CX k f fd ps sp :=
  ⟨fun vs H Q E h => F.len vs H (fun v H' => Rst H H' (Q v)) E ⟨Q, fun _ _ z => z, h⟩, fun A outer s H args us vs Q E hr he hb hv hs =>
    codeAny_mono (F.run A outer s H args us vs (fun v H' => Rst H H' (Q v)) E hr he hb hv ⟨Q, fun _ _ z => z, hs⟩) fun r s' hq => by
      cases r with
      | error e => exact hq
      | ok fl =>
        cases fl with
        | ret u =>
          obtain ⟨v, H', e1, e2, e3, e4, e5, Hr, s1, s2, hn, q⟩ := hq
          exact ⟨v, Hr, e1, e2, un_rst e3 s1 s2, hok_rst he.hok e4 s1 s2 hn, e5, q⟩
        | next => exact False.elim hq
        | brk => exact False.elim hq
        | cont => exact False.elim hq⟩
theorem Fun.okR {x qual : Str} {st : Stmt} {f : Addr} {fd : FuncData} {N ps : List Str} {k : Nat} {sp : Sp} (F : Fun K x qual st f fd) (S : FnScope N ps (defScope st)) (len : ∀ vs H Q E, sp vs H Q E → vs.length = ps.length)
    (hbody : ∀ (cdv : Value) (A : Around) (outer : List Env) (s : Shared) (H : Hp) (vs : List V) (Q Q2 : VK) (E : XK), Room k (A.deeper (envOfC qual (defScope st) s.heap.objs.size f cdv)) → sp vs H Q E → (∀ v H', Rst H H' (Q v) → Q2 v H') →
      ∃ t, PSs (cxOf CX0 P w K mg base N qual (defScope st) f cdv A outer s H E).nox (defBody st) t ∧ t { nx := fun _ H' => Q2 .non H', rt := Q2 } (start N vs) H) : FnOk P w K mg base CX0 (k + 1) f fd ps sp :=
  FnOk.rst (F.ok S (fun vs H Q2 E ⟨Q, _, h⟩ => len vs H Q E h) fun cdv A outer s H vs Q2 E hr ⟨Q, hq, h⟩ => hbody cdv A outer s H vs Q Q2 E hr h hq)
end
end L3
set_option Elab.async false
set_option linter.all false
set_option maxRecDepth 100000
set_option maxHeartbeats 4000000
namespace L3
open PySem PySem.Spec PyProof.Rows L2
abbrev NE : Value → Shared → Prop := fun _ _ => False
def PTs (X : Cx) (cs : List Expr) (t : TT) : Prop :=
  ∀ (pins : List (Addr × Obj)) (s : Shared) (σ : L2.St) (H : Hp) (Q : Bool → Hp → Prop), Inv X pins σ H s → t σ H Q →
    wpAny (model X.prog X.w) X.A (forIn cs true fun c r => if r = true then do let ok ← isTrue c X.env (eval c X.env); pure (ForInStep.yield ok) else pure (ForInStep.yield r)) (TP X pins σ Q) X.xe s
def tYes : TT := fun _ H Q => Q true H
theorem pts_nil {X : Cx} : PTs X [] tYes := fun _ _ _ H _ I h => wpAny_tests_nil ⟨H, I, h⟩
theorem pts_one {X : Cx} {c : Expr} {t : TT} (h : PT X c t) : PTs X [c] t := fun pins s σ H Q I q => wpAny_tests_one (h pins s σ H Q I q)
section
variable {prog : Program} {w : World} {A : Around} {R : Result → Shared → Prop} {s : Shared}
theorem compLoop_any {elt target iter : Expr} {ifs : List Expr} {scope : Scope} {pos : Pos} {it acc : Value} {env : Env} (I : Nat → Shared → Prop)
    (turn : ∀ n s, I n s → wpAny (model prog w) A (pyNext it) (fun r s₁ => match r with
      | none => R (.ok .next) s₁
      | some v => wpAny (model prog w) A (letOwnedTupleGo target it v) (fun _ s₀ => wpAny (model prog w) A (assign target env v) (fun _ s₂ =>
          wpAny (model prog w) A (forIn ifs true fun c r => if r = true then do let ok ← isTrue c env (eval c env); pure (ForInStep.yield ok) else pure (ForInStep.yield r)) (fun ok s₃ =>
            if ok = true then wpAny (model prog w) A (eval elt env) (fun x s₄ =>
              wpAny (model prog w) A (call (.builtin "list.append") [acc, x]) (fun _ s₅ => ∃ m, m < n ∧ I m s₅) NE s₄) NE s₃
            else ∃ m, m < n ∧ I m s₃) NE s₂) NE s₀) NE s₁) NE s)
    (n : Nat) (h : I n s) :
    codeAny (model prog w) A (.compLoop (.ListComp elt [⟨target, iter, ifs, 0⟩] scope pos) 0 it acc env) R s := by
  refine codeAny_loop rfl I (fun n s hI => ?_) n h
  show wpAny _ A ((compTurn (.ListComp elt [⟨target, iter, ifs, 0⟩] scope pos) 0 it acc env).onRaise (fun x => do noteFrame x env; theTreesLotGoes x)) _ _ s
  refine wpAny_noted (wpAny_mono (E := NE) ?_ (fun _ _ q => q) fun _ _ f => f.elim)
  rw [compTurn_list]
  refine wpAny_bind (wpAny_standAt (wpAny_bind (wpAny_mono (turn n s hI) (fun r s₁ h₁ => ?_) fun _ _ h' => h')))
  cases r with
  | none => exact wpAny_pure h₁
  | some v =>
    refine wpAny_bind (wpAny_mono h₁ (fun _ s₀ h₀ => ?_) fun _ _ h' => h')
    refine wpAny_bind (wpAny_mono h₀ (fun _ s₂ h₂ => wpAny_bind (wpAny_mono h₂ (fun ok s₃ h₃ => ?_) fun _ _ h' => h')) fun _ _ h' => h')
    cases ok with
    | false => exact wpAny_pure ⟨rfl, h₃⟩
    | true =>
      exact wpAny_bind (wpAny_bind (wpAny_mono h₃ (fun x s₄ h₄ => wpAny_bind (wpAny_mono h₄ (fun _ s₅ h₅ => wpAny_pure (wpAny_pure ⟨rfl, h₅⟩)) fun _ _ h' => h')) fun _ _ h' => h'))
end
theorem closure_go {env : Env} : ∀ (names : List (Str × NameKind)) (cs : List (Str × Addr)), (∀ y ∈ names, y.2 = .free → ∃ c, env.cells.lookup y.1 = some c) → (∀ x c, cs.lookup x = some c → env.cells.lookup x = some c) →
    ∃ cl, (forIn names cs (fun (y : Str × NameKind) r => if (y.2 == .free) = true then do let a ← cellOf env y.1; pure (ForInStep.yield ((y.1, a) :: r)) else pure (ForInStep.yield r)) : Sem (List (Str × Addr))) = pure cl ∧
      (∀ x c, cl.lookup x = some c → env.cells.lookup x = some c) ∧ (∀ x, (∃ c, cs.lookup x = some c) → ∃ c, cl.lookup x = some c) ∧ (∀ y ∈ names, y.2 = .free → ∃ c, cl.lookup y.1 = some c)
  | [], cs, _, h => ⟨cs, rfl, h, fun _ z => z, fun _ z => nomatch z⟩
  | y :: r, cs, hn, h => by
    by_cases hy : y.2 = .free
    · obtain ⟨c, hc⟩ := hn y List.mem_cons_self hy
      have hc' : cellOf env y.1 = pure c := by unfold cellOf; rw [hc]
      have h2 : ∀ x d, ((y.1, c) :: cs).lookup x = some d → env.cells.lookup x = some d := fun x d e => by
        rw [List.lookup_cons] at e
        by_cases hx : x = y.1
        · subst hx
          rw [show (y.1 == y.1) = true from beq_self_eq_true _] at e
          cases e
          exact hc
        · rw [show (x == y.1) = false from beq_eq_false_iff_ne.mpr hx] at e
          exact h x d e
      obtain ⟨cl, e1, e2, e3, e4⟩ := closure_go r ((y.1, c) :: cs) (fun z hz => hn z (List.mem_cons_of_mem _ hz)) h2
      refine ⟨cl, ?_, e2, fun x hx => e3 x ?_, fun z hz hf => ?_⟩
      · rw [List.forIn_cons, hy, if_pos (by decide), hc']
        exact e1
      · obtain ⟨d, hd⟩ := hx
        rw [List.lookup_cons]
        by_cases hx : x = y.1
        · exact ⟨c, by rw [show (x == y.1) = true from beq_iff_eq.mpr hx]⟩
        · exact ⟨d, by rw [show (x == y.1) = false from beq_eq_false_iff_ne.mpr hx]; exact hd⟩
      · rcases List.mem_cons.mp hz with rfl | hz
        · exact e3 z.1 ⟨c, by rw [List.lookup_cons, show (z.1 == z.1) = true from beq_self_eq_true _]⟩
        · exact e4 z hz hf
    · obtain ⟨cl, e1, e2, e3, e4⟩ := closure_go r cs (fun z hz => hn z (List.mem_cons_of_mem _ hz)) h
      refine ⟨cl, ?_, e2, e3, fun z hz hf => ?_⟩
      · rw [List.forIn_cons, if_neg (by intro q; exact hy (beq_iff_eq.mp q))]
        exact e1
      · rcases List.mem_cons.mp hz with rfl | hz
        · exact absurd hf hy
        · exact e4 z hz hf
theorem closure_ok {scope : Scope} {env : Env} (hn : ∀ y ∈ scope.names, y.2 = .free → ∃ c, env.cells.lookup y.1 = some c) :
    ∃ cl, closureFor scope env = pure cl ∧ (∀ x c, cl.lookup x = some c → env.cells.lookup x = some c) ∧ (∀ y ∈ scope.names, y.2 = .free → ∃ c, cl.lookup y.1 = some c) := by
  obtain ⟨cl, e1, e2, _, e4⟩ := closure_go (env := env) scope.names [] hn (fun x c e => by rw [List.lookup_nil] at e; cases e)
  refine ⟨cl, ?_, e2, e4⟩
  unfold closureFor
  exact (congrArg (· >>= pure) e1)
theorem relabel_back {env : Env} {x : Str} : ∀ {names : List (Str × NameKind)}, (∀ y ∈ names, y.2 ≠ .cell) →
    ((names.map fun (n, k) => if (k == NameKind.free && env.scope.kind == .function && env.kindOf n == some .cell) then (n, NameKind.cell) else (n, k)).lookup x = some .cell ∨
      (names.map fun (n, k) => if (k == NameKind.free && env.scope.kind == .function && env.kindOf n == some .cell) then (n, NameKind.cell) else (n, k)).lookup x = some .free) → names.lookup x = some .free
  | [], _, h => by rcases h with h | h <;> (rw [List.map_nil, List.lookup_nil] at h; cases h)
  | (n, k) :: r, hc, h => by
    have ih := relabel_back (env := env) (x := x) (names := r) fun y hy => hc y (List.mem_cons_of_mem _ hy)
    have hk : k ≠ .cell := hc (n, k) List.mem_cons_self
    rw [List.map_cons] at h
    rw [List.lookup_cons]
    cases hx : x == n with
    | true =>
      dsimp only
      by_cases hq : (k == NameKind.free && env.scope.kind == .function && env.kindOf n == some .cell) = true
      · rw [Bool.and_eq_true, Bool.and_eq_true] at hq
        rw [beq_iff_eq.mp hq.1.1]
      · dsimp only at h
        rw [if_neg hq] at h
        rw [List.lookup_cons, hx] at h
        dsimp only at h
        rcases h with h | h
        · exact absurd (Option.some.inj h) hk
        · exact h
    | false =>
      dsimp only
      refine ih ?_
      dsimp only at h
      by_cases hq : (k == NameKind.free && env.scope.kind == .function && env.kindOf n == some .cell) = true
      · rw [if_pos hq, List.lookup_cons, hx] at h
        exact h
      · rw [if_neg hq, List.lookup_cons, hx] at h
        exact h
theorem mem_lookup {x : Str} {k : NameKind} {l : List (Str × NameKind)} (h : l.lookup x = some k) : (x, k) ∈ l := PySem.mem_of_lookup h
def comp (X : Cx) (Nc : List Str) (scope : Scope) (cl : List (Str × Addr)) (C : Addr) (s : Shared) (H : Hp) (fp : List Addr) : Cx :=
  { X with N := Nc, s₀ := s, H₀ := H, env := compEnvC scope cl C X.env, outer := X.stack, stack := X.stack, ex := fp, fn := fun _ => false, pn := [], xe := fun _ _ => False }
def MapOk (X : Cx) (scope : Scope) : List Str → List (Option Nat) → Prop
  | [], [] => True
  | _ :: N, none :: m => MapOk X scope N m
  | x :: N, some i :: m => (X.N[i]? = some x ∧ (X.env.scope.names.lookup x = some .cell ∨ X.env.scope.names.lookup x = some .free) ∧ scope.names.lookup x = some .free) ∧ MapOk X scope N m
  | _, _ => False
theorem MapOk.len {X : Cx} {scope : Scope} : ∀ {N : List Str} {m : List (Option Nat)}, MapOk X scope N m → m.length = N.length
  | [], [], _ => rfl
  | _ :: N, none :: m, h => congrArg (· + 1) (MapOk.len (N := N) (m := m) h)
  | _ :: N, some _ :: m, h => congrArg (· + 1) (MapOk.len (N := N) (m := m) h.2)
  | [], _ :: _, h => h.elim
  | _ :: _, [], h => h.elim
theorem MapOk.at {X : Cx} {scope : Scope} {x : Str} {i : Nat} : ∀ {N : List Str} {m : List (Option Nat)} {j : Nat}, MapOk X scope N m → m[j]? = some (some i) → N[j]? = some x →
    X.N[i]? = some x ∧ (X.env.scope.names.lookup x = some .cell ∨ X.env.scope.names.lookup x = some .free) ∧ scope.names.lookup x = some .free
  | [], [], j, _, h, _ => by simp at h
  | _ :: N, none :: m, 0, _, h, _ => by simp at h
  | _ :: N, none :: m, j + 1, k, h, e => MapOk.at (N := N) (m := m) (j := j) k (by simpa using h) (by simpa using e)
  | y :: N, some i' :: m, 0, k, h, e => by
    simp at h e
    subst h; subst e
    exact k.1
  | _ :: N, some _ :: m, j + 1, k, h, e => MapOk.at (N := N) (m := m) (j := j) k.2 (by simpa using h) (by simpa using e)
  | [], _ :: _, _, h, _, _ => h.elim
  | _ :: _, [], _, h, _, _ => h.elim
def mapS (m : List (Option Nat)) (σ : L2.St) : L2.St := m.map fun o => o.bind fun i => (σ[i]?).bind id
structure CompOk (X : Cx) (scope : Scope) (Nc : List Str) (mp : List (Option Nat)) : Prop where
  kind : scope.kind = .function
  noc : ∀ y ∈ scope.names, y.2 ≠ .cell
  loc : ∀ y ∈ scope.names, y.2 = .local → scope.names.lookup y.1 = some .local
  fre : ∀ y ∈ scope.names, y.2 = .free → X.env.kindOf y.1 = some .cell ∨ X.env.kindOf y.1 = some .free
  map : MapOk X scope Nc mp
section
variable {X : Cx} {pins : List (Addr × Obj)} {σ : L2.St} {H : Hp} {s : Shared} {scope : Scope} {Nc : List Str} {mp : List (Option Nat)} {cl : List (Str × Addr)} {C : Addr} {fp : List Addr}
theorem comp_ok (I : Inv X pins σ H s) (S : CompOk X scope Nc mp) (h1 : ∀ x c, cl.lookup x = some c → X.env.cells.lookup x = some c) (h2 : ∀ y ∈ scope.names, y.2 = .free → ∃ c, cl.lookup y.1 = some c)
    (hC : s.heap.objs.size ≤ C) (hf : ∀ b ∈ fp, FpOk X pins H b) (ho : ∀ b ∈ fp, b < s.heap.objs.size) : (comp X Nc scope cl C s H fp).Ok where
  mod := I.ok.mod
  kind := S.kind
  glob := I.ok.glob
  blt := I.ok.blt
  above := hC
  inj := fun x y c e e' => I.ok.inj x y c (h1 x c e) (h1 y c e')
  has := fun x hx => by
    have q : scope.names.lookup x = some .free := relabel_back (env := X.env) S.noc hx
    exact h2 (x, .free) (mem_lookup q) rfl
  cab := fun x c hx => absurd (show false = true from hx) Bool.false_ne_true
  hd := I.ok.hd
  frames := I.ok.frames
  stk := .inl rfl
  exf := fun b hb => ⟨fun z => absurd (Nat.lt_of_lt_of_le (ho b hb) hC) (by rw [z]; exact Nat.lt_irrefl _), fun x c e => (hf b hb).2.2.2.2.1 x c (h1 x c e)⟩
  bs := I.bs
  bsz := Nat.le_trans I.ok.bsz I.sz
  noex := fun b o e hb => by
    rcases (hf b hb).2.2.2.1 with z | z
    · exact I.ok.noex b o e z
    · exact absurd (Nat.lt_of_lt_of_le (Heap.lt_size e) (Nat.le_trans I.ok.bsz z)) (Nat.lt_irrefl _)
  exfs := fun b hb z => by
    rcases List.mem_cons.mp (I.stkSub b z) with e | e
    · exact (hf b hb).2.1 e
    · exact (hf b hb).2.2.1 e
  funs := I.stack
  frf := I.stkFree
theorem comp_inv {h' : Heap} {tk : Nat} {D : Addr} {oD : Obj} (I : Inv X pins σ H s) (S : CompOk X scope Nc mp) (h1 : ∀ x c, cl.lookup x = some c → X.env.cells.lookup x = some c) (h2 : ∀ y ∈ scope.names, y.2 = .free → ∃ c, cl.lookup y.1 = some c)
    (hC : s.heap.objs.size ≤ C) (hf : ∀ b ∈ fp, FpOk X pins H b) (ho : ∀ b ∈ fp, b < s.heap.objs.size) (kp : ∀ b o, s.heap.get? b = some o → h'.get? b = some o) {m : Str → Option Value} (hn : h'.Ns C m)
    (hD : s.heap.objs.size ≤ D) (hDC : D ≠ C) (eD : h'.get? D = some oD) (dD : ∀ v, oD.data ≠ .cell v) : Inv (comp X Nc scope cl C s H fp) [(D, oD)] (mapS mp σ) H { s with heap := h', toks := tk } where
  ok := comp_ok I S h1 h2 hC hf ho
  os := rfl
  bare := I.bare
  base := Un.kept kp
  loc := by
    refine ⟨m, hn, fun j x v e1 e2 _ => ?_⟩
    have hj : (mapS mp σ)[j]? = (mp[j]?).map fun o => o.bind fun i => (σ[i]?).bind id := by unfold mapS; rw [List.getElem?_map]
    rw [hj] at e2
    cases e3 : mp[j]? with
    | none => rw [e3] at e2; cases e2
    | some o =>
      rw [e3] at e2
      cases o with
      | none => cases e2
      | some i =>
        obtain ⟨k1, k2, k3⟩ := S.map.at e3 e1
        have e4 : (σ[i]?).bind id = some v := Option.some.inj e2
        have e5 : σ[i]? = some (some v) := by
          cases q : σ[i]? with
          | none => rw [q] at e4; cases e4
          | some z => rw [q] at e4; exact congrArg some e4
        obtain ⟨m0, _, hl⟩ := I.loc
        obtain ⟨u, r, l⟩ := hl i x v k1 e5 (.inr k2)
        refine ⟨u, r, .inr ⟨?_, ?_⟩⟩
        · show (relabel scope X.env).names.lookup x = some .cell ∨ (relabel scope X.env).names.lookup x = some .free
          have go : ∀ {names : List (Str × NameKind)}, names.lookup x = some .free →
              ((names.map fun (n, k) => if (k == NameKind.free && X.env.scope.kind == .function && X.env.kindOf n == some .cell) then (n, NameKind.cell) else (n, k)).lookup x = some .cell ∨
                (names.map fun (n, k) => if (k == NameKind.free && X.env.scope.kind == .function && X.env.kindOf n == some .cell) then (n, NameKind.cell) else (n, k)).lookup x = some .free) := by
            intro names
            induction names with
            | nil => intro q; rw [List.lookup_nil] at q; cases q
            | cons y r ih =>
              obtain ⟨n, k⟩ := y
              intro q
              rw [List.lookup_cons] at q
              rw [List.map_cons]
              dsimp only
              cases hx : x == n with
              | true =>
                rw [hx] at q
                cases q
                by_cases hq : (NameKind.free == NameKind.free && X.env.scope.kind == .function && X.env.kindOf n == some .cell) = true
                · rw [if_pos hq, List.lookup_cons, hx]; exact .inl rfl
                · rw [if_neg hq, List.lookup_cons, hx]; exact .inr rfl
              | false =>
                rw [hx] at q
                by_cases hq : (k == NameKind.free && X.env.scope.kind == .function && X.env.kindOf n == some .cell) = true
                · rw [if_pos hq, List.lookup_cons, hx]; exact ih q
                · rw [if_neg hq, List.lookup_cons, hx]; exact ih q
          exact go k3
        · obtain ⟨c, hc⟩ := h2 (x, .free) (mem_lookup k3) rfl
          refine ⟨c, hc, ?_⟩
          rcases l with ⟨lk, _⟩ | ⟨_, c', hc', oc, hoc, hd⟩
          · have lk' : X.env.scope.names.lookup x = some .local := lk
            rcases k2 with k2 | k2 <;> (rw [lk'] at k2; cases k2)
          · rw [h1 x c hc] at hc'; cases hc'
            exact ⟨oc, kp _ _ hoc, hd⟩
  cell := fun x c e => by
    obtain ⟨v, o, ho', hd⟩ := I.cell x c (h1 x c e)
    exact ⟨v, o, kp _ _ ho', hd⟩
  free := I.hok.fresh hC
  freeC := fun x c e => I.freeC x c (h1 x c e)
  pin := fun p hp => by
    have e : p = (D, oD) := by
      have hp' : p ∈ ([] : List (Addr × Obj)) ++ [(D, oD)] := hp
      simpa using hp'
    subst e
    refine ⟨eD, I.hok.fresh hD, hDC, fun z => ?_, dD⟩
    rcases List.mem_cons.mp (I.stkSub D z) with e | e
    · exact absurd (Nat.lt_of_lt_of_le I.lt hD) (by rw [e]; exact Nat.lt_irrefl _)
    · exact I.nofs hD e
  hok := I.hok.kept kp
  len := by unfold mapS; rw [List.length_map]; exact S.map.len
theorem comp_out {σ' : L2.St} {H' : Hp} {s' : Shared} {h' : Heap} {D : Addr} {acc : List V} {its : List Value} {n : Nat} (I : Inv X pins σ H s) (hC : s.heap.objs.size ≤ C) (hD : s.heap.objs.size ≤ D) (hDC : D ≠ C) (hf : ∀ b ∈ fp, FpOk X pins H b)
    (J : Inv (comp X Nc scope cl C s H fp) [(D, { cls := .type "list", data := .seq its.toArray n })] σ' H' s') (hs : Heap.SameBut C s'.heap h') (hv : Vals acc its) (hz : acc.length ≤ sizeLine) :
    Inv X pins σ (upd H' D (.lst acc)) { s' with heap := h' } ∧ H' D = none := by
  obtain ⟨eD, nD, _, _, _⟩ := J.pin (D, { cls := .type "list", data := .seq its.toArray n }) (List.mem_append_right _ List.mem_cons_self)
  have nD' : H' D = none := nD
  have u : Un (frs X.stack) fp H H' s.heap s'.heap := J.base
  have neC : ∀ b o, s.heap.get? b = some o → b ≠ C := fun b o e => Nat.ne_of_lt (Nat.lt_of_lt_of_le (Heap.lt_size e) hC)
  have neD : ∀ b o, s.heap.get? b = some o → b ≠ D := fun b o e => Nat.ne_of_lt (Nat.lt_of_lt_of_le (Heap.lt_size e) hD)
  refine ⟨?_, nD'⟩
  refine I.call' (ch := fp) (s' := { s' with heap := h' }) J.os ⟨fun b o e nb hb hx => ?_, fun b o e nb hb hx => ?_, fun b o e nb hx => ?_, fun b o e hx => ?_, fun b xs e => ?_, fun b o xs e => ?_, fun b ps e => ?_⟩ (fun b o e => ?_) J.bare fun b hb => ⟨(hf b hb).2.2.2.1, (hf b hb).2.1, (hf b hb).2.2.2.2.1, (hf b hb).2.2.2.2.2⟩
  · exact (hs.2 b (neC b o e)).trans (u.keep b o e nb hb hx)
  · obtain ⟨sl, q⟩ := u.slot b o e nb hb hx
    exact ⟨sl, (hs.2 b (neC b o e)).trans q⟩
  · rw [upd_ne (neD b o e)]; exact u.free b o e nb hx
  · obtain ⟨o', q⟩ := u.there b o e hx
    exact ⟨o', (hs.2 b (neC b o e)).trans q⟩
  · have q := u.tups b xs e
    rw [upd_ne (ne_of_none q nD')]; exact q
  · have q := u.frzs b o xs e
    rw [upd_ne (ne_of_none q nD')]; exact q
  · obtain ⟨more, q⟩ := u.tbls b ps e
    exact ⟨more, by rw [upd_ne (ne_of_none q nD')]; exact q⟩
  · have freeC' : H' C = none := J.free
    by_cases hb : b = D
    · subst hb
      rw [upd_same] at e; cases e
      exact ⟨hz, its, n, hv, (hs.2 _ hDC).trans eD⟩
    · rw [upd_ne hb] at e
      refine (J.hok b o e).stay (fun c v hc q => (hs.2 c ?_).trans q) (fun c q => by rw [upd_ne (ne_of_none q nD')]; exact q) fun c xs q => by rw [upd_ne (ne_of_none q nD')]; exact q
      rcases hc with z | z
      · rw [z]; exact ne_of_none e freeC'
      · exact ne_of_none z freeC'
end
def wComp (J : It) (g : TG) (tt : TT) (te : TE) (Q : VK) (σ : L2.St) (H : Hp) : Prop :=
  ∃ W : Nat → Nat → L2.St → List V → Hp → Prop, (∃ m, W 0 m σ [] H) ∧ ∀ i m σ acc H, W i m σ acc H →
    (J.stop i H ∧ acc.length ≤ sizeLine ∧ ∀ D, H D = none → Q (.ref D) (upd H D (.lst acc))) ∨
    (J.go i H ∧ ∀ x H', J.yld i H x H' → g x σ H' fun σ2 H2 => tt σ2 H2 fun b H3 => if b = true then te σ2 H3 fun v H4 => acc.length < sizeLine ∧ ∃ m', m' < m ∧ W (i + 1) m' σ2 (acc ++ [v]) H4 else ∃ m', m' < m ∧ W (i + 1) m' σ2 acc H3)
def tComp (mp : List (Option Nat)) (wi : TI) (g : TG) (tt : TT) (te : TE) : TE := fun σ H Q => wi σ H fun J H1 => wComp J g tt te Q (mapS mp σ) H1
section
variable {X : Cx} {scope : Scope} {Nc : List Str} {mp : List (Option Nat)} {tg iter elt : Expr} {ifs : List Expr} {pos : Pos} {wi : TI} {g : TG} {tt : TT} {te : TE}
theorem comp_block {pins : List (Addr × Obj)} {σ : L2.St} {H : Hp} {s2 : Shared} {it : Addr} {fp : List Addr} {tn : Nat → Heap → Prop} {J : It} {cl : List (Str × Addr)} {RR : Value → Addr → Result → Shared → Prop} {Q : VK}
    (hc : X.calm = true) (S : CompOk X scope Nc mp)
    (hb : ∀ cl C s H fp, PG (comp X Nc scope cl C s H fp) tg g ∧ PTs (comp X Nc scope cl C s H fp) ifs tt ∧ PE (comp X Nc scope cl C s H fp) elt te)
    (h1 : ∀ x c, cl.lookup x = some c → X.env.cells.lookup x = some c) (h2 : ∀ y ∈ scope.names, y.2 = .free → ∃ c, cl.lookup y.1 = some c)
    (I : Inv X pins σ H s2) (T : Turn X.prog X.w X.K tg J fp it tn) (st : tn 0 s2.heap) (hf : ∀ b ∈ fp, FpOk X pins H b) (hw : wComp J g tt te Q (mapS mp σ) H)
    (hR : ∀ D C s' H', s2.heap.objs.size ≤ C → s2.heap.objs.size ≤ D → D ≠ C → (∃ m, s'.heap.Ns C m) → (∀ h', Heap.SameBut C s'.heap h' → Inv X pins σ H' { s' with heap := h' }) → H' C = none → Q (.ref D) H' → RR (.ref D) C (.ok .next) s') :
    wpAny (model X.prog X.w) X.A (newList []) (fun acc s₃ => wpAny (model X.prog X.w) X.A (newFunctionEnv scope X.env.globals cl [] X.env.qual none .none (some X.env)) (fun cenv s₄ =>
      codeAny (model X.prog X.w) X.A (.compStart (.ListComp elt [⟨tg, iter, ifs, 0⟩] scope pos) 0 (.ref it) acc { cenv with scope := relabel scope X.env }) (RR acc cenv.locals) s₄) X.xe s₃) X.xe s2 := by
  obtain ⟨W, ⟨m0, w0⟩, turn⟩ := hw
  refine wpAny_newObj_type (wpAny_newFunctionEnv S.noc (by intro y hy; simp at hy) (fun h₁ hns₁ hsb₁ => ?_) S.kind)
  dsimp only at hns₁ hsb₁ ⊢
  generalize hH2 : s2.heap.push { cls := .type "list", dict := none, data := .seq ([] : List Value).toArray } = H2 at hns₁ hsb₁ ⊢
  have hC : H2.objs.size = s2.heap.objs.size + 1 := by rw [← hH2, Heap.size_push]
  have hDC : s2.heap.objs.size ≠ H2.objs.size := by rw [hC]; exact Nat.ne_of_lt (Nat.lt_succ_self _)
  have hCle : s2.heap.objs.size ≤ H2.objs.size := by rw [hC]; exact Nat.le_succ _
  have below : ∀ b, b < s2.heap.objs.size → b ≠ H2.objs.size := fun b hb => by rw [hC]; exact Nat.ne_of_lt (Nat.lt_succ_of_lt hb)
  have old : ∀ b o, s2.heap.get? b = some o → h₁.get? b = some o := fun b o e => hsb₁.extBut b o (below b (Heap.lt_size e)) (Heap.get?_push_of_some _ (hH2 ▸ Heap.get?_push_of_some _ e))
  have eD : h₁.get? s2.heap.objs.size = some { cls := .type "list", data := .seq ([] : List Value).toArray 0 } := hsb₁.extBut _ _ hDC (Heap.get?_push_of_some _ (hH2 ▸ Heap.get?_push_size _ rfl))
  have ho : ∀ b ∈ fp, b < s2.heap.objs.size := fun b hb => by
    obtain ⟨o, e, _⟩ := T.obj 0 _ st b hb
    exact Heap.lt_size e
  generalize hYd : comp X Nc scope cl H2.objs.size s2 H fp = Y
  have bodies := hb cl H2.objs.size s2 H fp
  rw [hYd] at bodies
  obtain ⟨hg, htt, hte⟩ := bodies
  have I0 : ∀ tk, Inv Y [(s2.heap.objs.size, { cls := .type "list", data := .seq ([] : List Value).toArray 0 })] (mapS mp σ) H { s2 with heap := h₁, toks := tk } := fun tk => by
    rw [← hYd]
    exact comp_inv I S h1 h2 hCle hf ho old hns₁ (Nat.le_refl _) hDC eD fun v z => by cases z
  have hYp : Y.prog = X.prog := by rw [← hYd]; rfl
  have hYw : Y.w = X.w := by rw [← hYd]; rfl
  have hYK : Y.K = X.K := by rw [← hYd]; rfl
  have hYA : Y.A = X.A := by rw [← hYd]; rfl
  have hYc : Y.calm = true := by rw [← hYd]; exact hc
  have hYx : Y.xe = fun _ _ => False := by rw [← hYd]; rfl
  have hYe : Y.env = compEnvC scope cl H2.objs.size X.env := by rw [← hYd]; rfl
  have hYs : Y.s₀ = s2 := by rw [← hYd]; rfl
  have hYex : Y.ex = fp := by rw [← hYd]; rfl
  have hYpn : Y.pn = [] := by rw [← hYd]; rfl
  have hYfs : Y.fs = frs X.stack := by rw [← hYd]; rfl
  -- the iterator's objects, in the block
  have fpY : ∀ {o : Obj} {H' : Hp}, (∀ b ∈ fp, H' b = none) → ∀ b ∈ fp, FpOk Y [(s2.heap.objs.size, o)] H' b := fun {o H'} hn b hb => by
    refine ⟨hn b hb, ?_, ?_, .inl (by rw [hYex]; exact hb), fun x c e => ?_, fun p hp => ?_⟩
    · rw [hYe]; exact below b (ho b hb)
    · rw [hYfs]
      intro z
      rcases List.mem_cons.mp (I.stkSub b z) with e | e
      · exact (hf b hb).2.1 e
      · exact (hf b hb).2.2.1 e
    · rw [hYe] at e
      exact (hf b hb).2.2.2.2.1 x c (h1 x c e)
    · rw [hYpn] at hp
      have e : p = (s2.heap.objs.size, o) := by simpa using hp
      subst e
      exact Nat.ne_of_gt (ho b hb)
  have loop : ∀ s₃ : Shared, s₃ = { s2 with heap := h₁, toks := s2.toks + ([] : List (Str × Value)).length } →
      codeAny (model X.prog X.w) X.A (.compLoop (.ListComp elt [⟨tg, iter, ifs, 0⟩] scope pos) 0 (.ref it) (.ref s2.heap.objs.size) (compEnvC scope cl H2.objs.size X.env))
        (RR (.ref s2.heap.objs.size) H2.objs.size) s₃ := by
    rintro s₃ rfl
    refine compLoop_any (fun n s' => ∃ i σ' H' acc its k, Inv Y [(s2.heap.objs.size, { cls := .type "list", data := .seq its.toArray k })] σ' H' s' ∧ tn i s'.heap ∧ (∀ b ∈ fp, H' b = none) ∧ Vals acc its ∧ acc.length ≤ sizeLine ∧ W i n σ' acc H') ?_ m0
      ⟨0, mapS mp σ, H, [], [], 0, I0 _, T.keep 0 _ _ st fun b _ o e => old b o e, fun b hb => (hf b hb).1, .nil, Nat.zero_le _, w0⟩
    rintro n s3 ⟨i, σ3, H3, acc, its, k, I3, st3, fr3, hv, hz, w3⟩
    rcases turn i n σ3 acc H3 w3 with ⟨stop, hzz, qn⟩ | ⟨go, step⟩
    · have hd := T.done Y hYp hYw hYK hYc i _ s3 σ3 H3 NE I3 (fpY fr3) st3 stop
      rw [hYA] at hd
      refine thn hd fun r s4 ⟨hr, I4⟩ => ?_
      subst hr
      have I4' := I4
      rw [← hYd] at I4'
      have nC : H3 H2.objs.size = none := by
        have z := I4.free
        rw [hYe] at z
        exact z
      obtain ⟨_, nD⟩ := comp_out I hCle (Nat.le_refl _) hDC hf I4' (Heap.SameBut.refl _ s4.heap) hv hzz
      refine hR _ _ s4 _ hCle (Nat.le_refl _) hDC ?_ (fun h' hs' => (comp_out I hCle (Nat.le_refl _) hDC hf I4' hs' hv hzz).1) ?_ (qn _ nD)
      · obtain ⟨m', hn', _⟩ := I4.loc
        rw [hYe] at hn'
        exact ⟨m', hn'⟩
      · rw [upd_ne (Ne.symm hDC)]; exact nC
    · have hi := T.item Y hYp hYw hYK hYc i _ s3 σ3 H3 NE I3 (fpY fr3) st3 go
      rw [hYA] at hi
      refine thn hi fun r s4 ⟨u, hr, h4⟩ => ?_
      subst hr
      refine thn h4 fun _ s5 ⟨x, H5, I5, r5, y5, st5, fr5⟩ => ?_
      have I5' := I5.pinned (fpY fr5) (T.obj _ _ st5)
      have ha := hg _ s5 σ3 H5 x u _ I5' r5 (step x H5 y5)
      rw [hYp, hYw, hYA, hYe, hYx] at ha
      refine thn ha fun _ s6 ⟨σ6, H6, I6, q6⟩ => ?_
      have ht := htt _ s6 σ6 H6 _ I6 q6
      rw [hYp, hYw, hYA, hYe, hYx] at ht
      refine thn ht fun ok s7 ⟨H7, I7, q7⟩ => ?_
      cases ok with
      | false =>
        have q7' : ∃ m', m' < n ∧ W (i + 1) m' σ6 acc H7 := q7
        obtain ⟨m', hm, w7⟩ := q7'
        rw [if_neg Bool.false_ne_true]
        refine ⟨m', hm, i + 1, σ6, H7, acc, its, k, I7.unpinned, T.keep _ _ _ st5 fun b hb o e => (I7.pin (b, o) (List.mem_append_right _ (List.mem_append_right _ (mem_pinsAt hb e)))).1, fun b hb => ?_, hv, hz, w7⟩
        obtain ⟨o, e, d⟩ := T.obj _ _ st5 b hb
        exact (I7.pin (b, o) (List.mem_append_right _ (List.mem_append_right _ (mem_pinsAt hb e)))).2.1
      | true =>
        rw [if_pos rfl]
        have he := hte _ s7 σ6 H7 _ I7 q7
        rw [hYp, hYw, hYA, hYe, hYx] at he
        refine thn he fun x4 s8 ⟨v, H8, I8, r8, hlt, m', hm, w8⟩ => ?_
        have st8 : tn (i + 1) s8.heap := T.keep _ _ _ st5 fun b hb o e => (I8.pin (b, o) (List.mem_append_right _ (List.mem_append_right _ (mem_pinsAt hb e)))).1
        have fr8 : ∀ b ∈ fp, H8 b = none := fun b hb => by
          obtain ⟨o, e, d⟩ := T.obj _ _ st5 b hb
          exact (I8.pin (b, o) (List.mem_append_right _ (List.mem_append_right _ (mem_pinsAt hb e)))).2.1
        have I8' := I8.unpinned
        obtain ⟨e8, n8, ne8, nf8, _⟩ := I8'.pin (s2.heap.objs.size, { cls := .type "list", data := .seq its.toArray k }) (List.mem_append_right _ List.mem_cons_self)
        refine wpAny_list_append_plain (items := its.toArray) ⟨k, e8⟩ (fun h9 hl9 hs9 => ?_) (by rw [List.size_toArray, ← hv.length]; exact hz)
        obtain ⟨k9, e9⟩ := hl9
        have ep : its.toArray.push x4 = (its ++ [x4]).toArray := by simp
        rw [ep] at e9
        -- the list has turned
        have I9 : Inv Y [] σ6 H8 { s8 with heap := h9 } := by
          refine (I8'.pins_of (pins' := []) fun p hp => nomatch hp).turned (t' := s8.toks) (it := s2.heap.objs.size) (fun b o hb e => (hs9.2 b hb).trans e) n8 ne8 (.inr (by rw [hYs]; exact Nat.le_refl _)) (fun x c e z => ?_) fun p hp => ?_
          · rw [hYe] at e
            obtain ⟨v', o', ho', _⟩ := I.cell x c (h1 x c e)
            exact absurd (Heap.lt_size ho') (by rw [z]; exact Nat.lt_irrefl _)
          · rw [hYpn] at hp
            exact absurd hp (by simp)
        refine ⟨m', hm, i + 1, σ6, H8, acc ++ [v], its ++ [x4], k9, I9.pins_of fun p hp => ?_, ?_, fr8, hv.append (.cons r8 .nil), ?_, w8⟩
        · have e : p = (s2.heap.objs.size, { cls := .type "list", data := .seq (its ++ [x4]).toArray k9 }) := by simpa using hp
          subst e
          exact ⟨e9, n8, ne8, nf8, fun v z => by cases z⟩
        · exact T.keep _ _ _ st8 fun b hb o e => (hs9.2 b (Nat.ne_of_lt (ho b hb))).trans e
        · rw [List.length_append, List.length_singleton]; omega
  have hself := T.self X.A 0 { s2 with heap := h₁, toks := s2.toks + ([] : List (Str × Value)).length } (fun it' s' => codeAny (model X.prog X.w) X.A (.compLoop (.ListComp elt [⟨tg, iter, ifs, 0⟩] scope pos) 0 it' (.ref s2.heap.objs.size) (compEnvC scope cl H2.objs.size X.env))
        (RR (.ref s2.heap.objs.size) H2.objs.size) s') (notedBy (model X.prog X.w) X.A (compEnvC scope cl H2.objs.size X.env) fun x s' => RR (.ref s2.heap.objs.size) H2.objs.size (.error x) s') (T.keep 0 _ _ st fun b _ o e => old b o e) (loop _ rfl)
  exact codeAny_compStart_list (loop _ rfl) hself
theorem clos_of (S : CompOk X scope Nc mp) {pins : List (Addr × Obj)} {σ : L2.St} {H : Hp} {s : Shared} (I : Inv X pins σ H s) : ∃ cl, closureFor scope X.env = pure cl ∧ (∀ x c, cl.lookup x = some c → X.env.cells.lookup x = some c) ∧ (∀ y ∈ scope.names, y.2 = .free → ∃ c, cl.lookup y.1 = some c) :=
  closure_ok fun y hy hf => I.ok.has y.1 (S.fre y hy hf)
theorem pe_comp (hc : X.calm = true) (S : CompOk X scope Nc mp) (hi : PI X tg iter wi)
    (hb : ∀ cl C s H fp, PG (comp X Nc scope cl C s H fp) tg g ∧ PTs (comp X Nc scope cl C s H fp) ifs tt ∧ PE (comp X Nc scope cl C s H fp) elt te)
    (hs : ∀ x, foldedSetIterable iter X.env x = pure x := by intro _; rfl) : PE X (.ListComp elt [⟨tg, iter, ifs, 0⟩] scope pos) (tComp mp wi g tt te) := by
  intro pins s σ H Q I h
  obtain ⟨cl, hcl, h1, h2⟩ := clos_of S I
  rw [eval_ListComp]
  refine wpAny_comprehension_free (use := none) rfl hs hcl S.kind S.loc (thn (hi pins s σ H _ I h) fun v s1 hv => thn hv fun itv s2 hq => ?_)
  obtain ⟨it, fp, tn, J, H2, e, I2, T, st2, f2, hw⟩ := hq
  subst e
  refine comp_block (RR := fun acc C => compPost (model X.prog X.w) X.A X.xe none (EP X pins σ Q) acc C) (Q := Q) hc S hb h1 h2 I2 T st2 f2 hw fun D C s' H' hC hD hDC hm hI hn hq => ?_
  obtain ⟨m, hm⟩ := hm
  exact ⟨m, hm, fun h' hs' => ⟨.ref D, H', hI h' hs', rfl, hq⟩⟩
theorem ps_setC {i : Nat} {x : Str} {pos' spos : Pos} (hc : X.calm = true) (hN : X.N.Nodup) (hiN : X.N[i]? = some x) (hx : X.env.scope.names.lookup x = some .local) (S : CompOk X scope Nc mp) (hi : PI X tg iter wi)
    (hb : ∀ cl C s H fp, PG (comp X Nc scope cl C s H fp) tg g ∧ PTs (comp X Nc scope cl C s H fp) ifs tt ∧ PE (comp X Nc scope cl C s H fp) elt te)
    (hsw : swapsWith (.ListComp elt [⟨tg, iter, ifs, 0⟩] scope pos) (some (.Name x pos')) spos.line X.env = pure true := by rfl)
    (hs : ∀ x, foldedSetIterable iter X.env x = pure x := by intro _; rfl) : PS X (.Assign [.Name x pos'] (.ListComp elt [⟨tg, iter, ifs, 0⟩] scope pos) spos) (tAsg (tComp mp wi g tt te) (gName i)) := by
  intro pins s σ H D I h
  obtain ⟨cl, hcl, h1, h2⟩ := clos_of S I
  rw [exec_Assign_Name_used _ _ _ _ hsw]
  refine wpAny_bind (wpAny_standAt (wpAny_bind ?_))
  show wpAny _ X.A (do let _ ← comprehension (.ListComp elt [⟨tg, iter, ifs, 0⟩] scope pos) scope X.env _ (newList []) false (eval iter X.env) (some (assign (.Name x pos') X.env))) _ _ s
  refine wpAny_bind (wpAny_mono (wpAny_comprehension_free (use := some (assign (.Name x pos') X.env)) (Q := fun _ s' => SP X pins D .next s') rfl hs hcl S.kind S.loc (thn (hi pins s σ H _ I h) fun v s1 hv => thn hv fun itv s2 hq => ?_)) (fun _ s' hq => wpAny_pure (wpAny_pure hq)) fun _ _ e => e)
  obtain ⟨it, fp, tn, J, H2, e, I2, T, st2, f2, hw⟩ := hq
  subst e
  refine comp_block (RR := fun acc C => compPost (model X.prog X.w) X.A X.xe (some (assign (.Name x pos') X.env)) (fun _ s' => SP X pins D .next s') acc C) (Q := fun v H1 => D.nx (σ.set i (some v)) H1) hc S hb h1 h2 I2 T st2 f2 hw fun A C s' H' hC hD hDC hm hI hn hq => ?_
  obtain ⟨m, hm⟩ := hm
  show wpAny _ X.A (assign (.Name x pos') X.env (.ref A)) _ _ s'
  have I0 : Inv X pins σ H' s' := hI s'.heap (Heap.SameBut.refl ..)
  have hLC : X.env.locals ≠ C := Nat.ne_of_lt (Nat.lt_of_lt_of_le I2.lt hC)
  have hcC : ∀ y c, X.env.cells.lookup y = some c → c ≠ C := fun y c e z => by
    obtain ⟨v, o, ho, _⟩ := I2.cell y c e
    exact absurd (Nat.lt_of_lt_of_le (Heap.lt_size ho) hC) (by rw [z]; exact Nat.lt_irrefl _)
  refine wpAny_assign_Name (store_ok2 I0 hN hiN (.inl hx) (show RelV (.ref A) (.ref A) from rfl) (fun s6 I6 hch => ?_) (.inr hx))
  obtain ⟨a, hs6, ha⟩ := hch
  have hCa : C ≠ a := by
    rcases ha with z | z
    · rw [z]; exact Ne.symm hLC
    · exact Ne.symm (hcC x a z)
  refine ⟨m, hm.sameBut hs6 hCa, fun h' hs' => ?_⟩
  have I7 : Inv X pins (σ.set i (some (.ref A))) H' { s6 with heap := h' } := I6.turned (t' := s6.toks) (it := C) (fun b o hb e => (hs'.2 b hb).trans e) hn (Ne.symm hLC) (.inr (Nat.le_trans I2.sz hC)) hcC fun p hp z => by
    exact absurd (Nat.lt_of_lt_of_le (Heap.lt_size (I2.pin p hp).1) hC) (by rw [z]; exact Nat.lt_irrefl _)
  exact ⟨_, H', I7, hq⟩
end
end L3
set_option Elab.async false
set_option linter.all false
set_option maxRecDepth 100000
set_option maxHeartbeats 4000000
namespace L3
open PySem PySem.Spec PyProof.Rows L2
theorem bounds_gen (lo hi : Option Int) (n : Nat) : sliceBounds lo hi none n = (((HT.sIx n 0 lo : Nat) : Int), ((HT.sIx n n hi : Nat) : Int), 1) := by
  have clip : ∀ (v : Int), max 0 (min (if v < 0 then v + (n : Int) else v) (n : Int)) = (((if v < 0 then (v + (n : Int)).toNat else min v.toNat n) : Nat) : Int) := fun v => by
    by_cases hv : v < 0
    · rw [if_pos hv, if_pos hv]; omega
    · rw [if_neg hv, if_neg hv]; omega
  unfold sliceBounds
  refine Prod.ext ?_ (Prod.ext ?_ rfl)
  · cases lo with
    | none => rfl
    | some v => exact clip v
  · cases hi with
    | none => rfl
    | some v => exact clip v
theorem slicePick_cut (its : List Value) (lo hi : Option Int) : slicePick its.toArray lo hi none = ((its.drop (HT.sIx its.length 0 lo)).take (HT.sIx its.length its.length hi - HT.sIx its.length 0 lo)).toArray := by
  unfold slicePick
  rw [bounds_gen, List.size_toArray]
  dsimp only
  rw [sliceRange_one, pick_run]
section
variable {X : Cx}
def rSlLs (K : PySem.W.Frag) : V → Option Int → Option Int → Hp → VK → Prop := fun x lo hi H Q => ∃ a xs, x = .ref a ∧ SqL K H a xs ∧ ∀ p, H p = none → Q (.ref p) (upd H p (.lst (cutV xs lo hi)))
theorem sl_lst : SlR X (rSlLs X.K) := by
  intro pins s σ H x v vl vu lo hi sl Q I rx hs pl pu h
  obtain ⟨a, xs, rfl, hx, q⟩ := h
  cases rx
  obtain ⟨its, r, hp, hz⟩ := I.list hx
  refine ⟨"list", _, list_getitem_lookup, hp.isList.typeIs, ?_⟩
  refine wpAny_getItem_list_slice hp.isList hs pl pu .none (by simp) ?_ (by rw [List.size_toArray, ← r.length]; exact hz)
  rw [slicePick_cut, ← r.length]
  exact ⟨.ref _, _, I.lnew (t' := s.toks) ((r.drop _).take _) (Nat.le_trans (cutV_length xs lo hi) hz), rfl, q _ I.fresh⟩
theorem all_range (bs : List Bool) : (List.range bs.length).all (fun i => bs.getD i false) = bs.all id := by
  rw [Bool.eq_iff_iff, List.all_eq_true, List.all_eq_true]
  constructor
  · intro h b hb
    obtain ⟨i, hi, e⟩ := List.mem_iff_getElem.mp hb
    have := h i (List.mem_range.mpr hi)
    rw [List.getD_eq_getElem?_getD, List.getElem?_eq_getElem hi] at this
    rw [← e]; exact this
  · intro h i hi
    have hi' := List.mem_range.mp hi
    rw [List.getD_eq_getElem?_getD, List.getElem?_eq_getElem hi']
    exact h _ (List.getElem_mem hi')
theorem call_all (hc : X.calm = true) : CallR X (.builtin "all") (fun xs H Q => ∃ (p : Addr) (bs : List Bool), xs = [.ref p] ∧ SqL X.K H p (bs.map V.bl) ∧ Q (.bl (bs.all id)) H) := by
  intro pins s σ H xs us Q I r h
  obtain ⟨p, bs, rfl, hq, q⟩ := h
  obtain ⟨u, rfl, ru⟩ := r.one
  cases ru
  obtain ⟨its, rv, hp, hz⟩ := I.list hq
  have hlt : p < s.heap.objs.size := by obtain ⟨_, e, _⟩ := hp.isList; exact Heap.lt_size e
  refine call_all_walk (wpAny_pyIter_list hp.isList ?_)
  refine ⟨s.heap.objs.size, [s.heap.objs.size, p], [s.heap.objs.size], its.toArray.size, _, _, fun i => bs.getD i false, rfl, Walks.list (A := X.A.in1) (I.ok.hd hc) _ _ (Nat.ne_of_lt hlt) its.toArray, ⟨⟨_, Heap.get?_push_size _ rfl, rfl, rfl⟩, hp.isList.push _⟩, ?_, ?_⟩
  · intro i v s' Q' E' hv hQ'
    have hv' : its[i]? = some v := by simpa using hv
    have hi : i < (bs.map V.bl).length := by
      rw [rv.length]; exact (List.getElem?_eq_some_iff.mp hv').1
    have hib : i < bs.length := by simpa using hi
    obtain ⟨u, hu, ru⟩ := rv.get (i := i) (x := V.bl bs[i]) (by rw [List.getElem?_map, List.getElem?_eq_getElem hib]; rfl)
    rw [hv'] at hu; cases hu
    cases ru
    have e : bs.getD i false = bs[i] := by rw [List.getD_eq_getElem?_getD, List.getElem?_eq_getElem hib]; rfl
    dsimp only at hQ'
    rw [e] at hQ'
    exact wpAny_truthy_bool hQ'
  · intro h' tk hk
    have el : its.toArray.size = bs.length := by rw [List.size_toArray, ← rv.length, List.length_map]
    rw [el, all_range]
    exact ⟨.bl _, H, I.kept fun b o e => hk b o (fun z => absurd (Heap.lt_size e) (by rw [List.mem_singleton.mp z]; exact Nat.lt_irrefl _)) (Heap.get?_push_of_some _ e), rfl, q⟩
theorem call_isi : CallR X (.builtin "isinstance") (fun xs H Q => ∃ x n t b, xs = [x, .ty n] ∧ TyOf X.K H x t ∧ PySem.W.kitOne X.K t (.type n) = some b ∧ Q (.bl b) H) := by
  intro pins s σ H xs us Q I r h
  obtain ⟨x, n, t, b, rfl, ty, e, q⟩ := h
  obtain ⟨u, u2, rfl, r1, r2⟩ := r.two
  cases r2
  exact isinst_ok I r1 ty e fun tk => ⟨.bl b, H, I.tok _, rfl, q⟩
end
end L3
set_option Elab.async false
set_option linter.all false
set_option maxRecDepth 100000
set_option maxHeartbeats 4000000
namespace L3
open PySem PySem.Spec PyProof.Rows L2
def mapChk (sc : Scope) (N : List Str) (own : Scope) : List Str → List (Option Nat) → Bool
  | [], [] => true
  | _ :: r, none :: m => mapChk sc N own r m
  | x :: r, some i :: m => (N[i]? == some x && (sc.names.lookup x == some .cell || sc.names.lookup x == some .free) && own.names.lookup x == some .free) && mapChk sc N own r m
  | _, _ => false
def compChk (sc : Scope) (N : List Str) (own : Scope) (Nc : List Str) (mp : List (Option Nat)) : Bool :=
  (own.kind == .function) && (own.names.all fun y => y.2 != .cell) && (own.names.all fun y => y.2 != .local || own.names.lookup y.1 == some .local) &&
  (own.names.all fun y => y.2 != .free || (sc.names.lookup y.1 == some .cell || sc.names.lookup y.1 == some .free)) && mapChk sc N own Nc mp
theorem mapChk_ok {X : Cx} {own : Scope} : ∀ {Nc : List Str} {mp : List (Option Nat)}, mapChk X.env.scope X.N own Nc mp = true → MapOk X own Nc mp
  | [], [], _ => trivial
  | _ :: r, none :: m, h => mapChk_ok (Nc := r) (mp := m) h
  | x :: r, some i :: m, h => by
    unfold mapChk at h
    simp only [Bool.and_eq_true, Bool.or_eq_true, beq_iff_eq] at h
    exact ⟨⟨h.1.1.1, h.1.1.2, h.1.2⟩, mapChk_ok h.2⟩
  | [], _ :: _, h => absurd (show false = true from h) Bool.false_ne_true
  | _ :: _, [], h => absurd (show false = true from h) Bool.false_ne_true
theorem CompOk.of {X : Cx} {own : Scope} {Nc : List Str} {mp : List (Option Nat)} (h : compChk X.env.scope X.N own Nc mp = true) : CompOk X own Nc mp := by
  unfold compChk at h
  simp only [Bool.and_eq_true, List.all_eq_true, Bool.or_eq_true, beq_iff_eq, bne_iff_ne] at h
  obtain ⟨⟨⟨⟨h1, h2⟩, h3⟩, h4⟩, h5⟩ := h
  refine ⟨h1, h2, fun y hy e => ?_, fun y hy e => ?_, mapChk_ok h5⟩
  · rcases h3 y hy with z | z
    · exact absurd e z
    · exact z
  · rcases h4 y hy with z | z
    · exact absurd e z
    · exact z
structure Src (J : It) (H : Hp) (xs : List V) : Prop where
  go : ∀ i, i < xs.length → J.go i H
  yld : ∀ i x H', i < xs.length → J.yld i H x H' → H' = H ∧ xs[i]? = some x
  stop : ∀ i, xs.length ≤ i → J.stop i H
theorem src_range (lo : Int) (n : Nat) (H : Hp) : Src (Itr lo n) H ((List.range n).map fun i => V.int (lo + (i : Nat))) where
  go := fun i h => by
    rw [List.length_map, List.length_range] at h
    exact h
  yld := fun i x H' hi h => by
    obtain ⟨e, rfl⟩ := h
    rw [List.length_map, List.length_range] at hi
    exact ⟨e, by rw [List.getElem?_map, List.getElem?_range hi]; rfl⟩
  stop := fun i h => by
    rw [List.length_map, List.length_range] at h
    exact h
theorem src_list {K : PySem.W.Frag} {H : Hp} {a : Addr} {xs : List V} (h : SqL K H a xs) : Src (Itl K a) H xs where
  go := fun i hi => ⟨xs, xs[i], h, by simp [hi]⟩
  yld := fun i x H' _ q => ⟨q.1, q.2 xs h⟩
  stop := fun i hi => ⟨xs, h, hi⟩
theorem src_tup {K : PySem.W.Frag} {H : Hp} {a : Addr} {xs : List V} (h : SqT K H a xs) : Src (Itt K a) H xs where
  go := fun i hi => ⟨xs, xs[i], h, by simp [hi]⟩
  yld := fun i x H' _ q => ⟨q.1, q.2 xs h⟩
  stop := fun i hi => ⟨xs, h, hi⟩
theorem comp_pure {α : Type} {J : It} {H : Hp} {as : List α} {v : α → V} (f : α → Bool) (e : α → V) {tt : TT} {te : TE} {Q : VK} {rest : L2.St} (S : Src J H (as.map v)) (hz : as.length ≤ sizeLine)
    (ht : ∀ a ∈ as, ∀ k : Bool → Hp → Prop, k (f a) H → tt (some (v a) :: rest) H k) (he : ∀ a ∈ as, f a = true → ∀ k : VK, k (e a) H → te (some (v a) :: rest) H k)
    (hq : ∀ D, H D = none → Q (.ref D) (upd H D (.lst ((as.filter f).map e)))) : wComp J (gName 0) tt te Q (none :: rest) H := by
  refine ⟨fun i m σ acc H' => H' = H ∧ i ≤ as.length ∧ m = as.length - i ∧ acc = ((as.take i).filter f).map e ∧ ∃ o, σ = o :: rest, ⟨as.length, rfl, Nat.zero_le _, rfl, by simp, none, rfl⟩, ?_⟩
  rintro i m σ acc H' ⟨rfl, hi, rfl, rfl, o, rfl⟩
  have hacc : (((as.take i).filter f).map e).length ≤ i := by
    rw [List.length_map]
    exact Nat.le_trans (List.length_filter_le _ _) (by rw [List.length_take]; exact Nat.min_le_left _ _)
  by_cases hlt : i < as.length
  · refine .inr ⟨S.go i (by rw [List.length_map]; exact hlt), fun x H1 y => ?_⟩
    obtain ⟨rfl, hx⟩ := S.yld i x H1 (by rw [List.length_map]; exact hlt) y
    rw [List.getElem?_map, List.getElem?_eq_getElem hlt] at hx
    have hx' : v as[i] = x := Option.some.inj hx
    subst hx'
    have hm : as[i] ∈ as := List.getElem_mem hlt
    have ts : as.take (i + 1) = as.take i ++ [as[i]] := List.take_succ_eq_append_getElem hlt
    show tt (some (v as[i]) :: rest) H1 _
    refine ht _ hm _ ?_
    cases hf : f as[i] with
    | true =>
      rw [if_pos rfl]
      refine he _ hm hf _ ⟨by omega, as.length - (i + 1), by omega, rfl, hlt, rfl, ?_, _, rfl⟩
      rw [ts, List.filter_append, List.map_append, List.filter_cons_of_pos hf]
      rfl
    | false =>
      rw [if_neg Bool.false_ne_true]
      refine ⟨as.length - (i + 1), by omega, rfl, hlt, rfl, ?_, _, rfl⟩
      rw [ts, List.filter_append, List.filter_cons_of_neg (by rw [hf]; exact Bool.false_ne_true)]
      simp
  · have ei : i = as.length := by omega
    subst ei
    refine .inl ⟨S.stop _ (by rw [List.length_map]; exact Nat.le_refl _), by omega, fun D hD => ?_⟩
    rw [List.take_length]
    exact hq D hD
theorem comp_map {α : Type} {J : It} {H : Hp} {as : List α} {v : α → V} (e : α → V) {te : TE} {Q : VK} {rest : L2.St} (S : Src J H (as.map v)) (hz : as.length ≤ sizeLine)
    (he : ∀ a ∈ as, ∀ k : VK, k (e a) H → te (some (v a) :: rest) H k)
    (hq : ∀ D, H D = none → Q (.ref D) (upd H D (.lst (as.map e)))) : wComp J (gName 0) tYes te Q (none :: rest) H :=
  comp_pure (fun _ => true) e S hz (fun a _ k hk => hk) (fun a ha _ k hk => he a ha k hk) fun D hD => by
    have e1 : as.filter (fun _ => true) = as := by simp
    rw [e1]; exact hq D hD
section
variable {X : Cx} {st : Stmt} {t : TS}
def tMid (t : TS) : TS := fun D σ H => ∃ M : L2.St → Hp → Prop, t { D with nx := M } σ H ∧ ∀ σ' H', M σ' H' → D.nx σ' H'
theorem ps_mid (h : PS X st t) : PS X st (tMid t) := by
  intro pins s σ H D I hw
  obtain ⟨M, h1, h2⟩ := hw
  refine thn (h pins s σ H { D with nx := M } I h1) fun f s' q => ?_
  cases f with
  | next =>
    obtain ⟨σ', H', I', m⟩ := q
    exact ⟨σ', H', I', h2 _ _ m⟩
  | ret v => exact q
  | brk => exact q
  | cont => exact q
end
theorem szl : (sizeLine : Nat) = 16777216 := sizeLine_eq
theorem few {n : Nat} (h : n ≤ 100000) : n ≤ sizeLine := by rw [szl]; omega
theorem fewer {n : Nat} (h : n ≤ 100000) : n < sizeLine := by rw [szl]; omega
end L3
set_option Elab.async false
set_option linter.all false
set_option maxRecDepth 100000
set_option maxHeartbeats 4000000
namespace Vm
open PySem L2 L3
def Al (c : Nat) : Prop := 97 ≤ c ∧ c ≤ 122
structure Good (z : Str) : Prop where
  lo : 1 ≤ z.length
  hi : z.length ≤ 12
  al : ∀ c ∈ z.cps.toList, Al c
def letters : Str := "abcdefghijklmnopqrstuvwxyz"
theorem letters_cps : letters.cps.toList = (List.range 26).map (97 + ·) := by decide +kernel
theorem clen (z : Str) : z.cps.toList.length = z.length := by simp [Str.length]
theorem Good.small {z : Str} (g : Good z) : z.length ≤ sizeLine := few (by have := g.hi; omega)
def placesB (a b : List Nat) : List Nat := (List.range a.length).filter fun i => !decide (a[i]? = b[i]?)
def alikeB (a b : List Nat) : Bool := if a.length = b.length then decide ((placesB a b).length = 1) else false
theorem drop_min {α : Type} (l : List α) (n : Nat) : l.drop (min n l.length) = l.drop n := by
  by_cases h : n ≤ l.length
  · rw [Nat.min_eq_left h]
  · rw [Nat.min_eq_right (by omega), List.drop_of_length_le (Nat.le_refl l.length), List.drop_of_length_le (l := l) (i := n) (by omega)]
theorem al_mod (n : Nat) (h : n < 26) : Al (97 + n) := by unfold Al; omega
theorem app_list (a b : Str) : (a ++ b).cps.toList = a.cps.toList ++ b.cps.toList := by
  show (a.cps ++ b.cps).toList = _
  simp
theorem app_len (a b : Str) : (a ++ b).length = a.length + b.length := by
  show (a.cps ++ b.cps).size = _
  rw [Array.size_append]; rfl
end Vm
set_option Elab.async false
set_option linter.all false
set_option maxRecDepth 100000
set_option maxHeartbeats 4000000
namespace L3
open PySem PySem.Spec PyProof.Rows L2
open Builtin Builtin.Str
section
variable {X : Cx}
end
end L3
namespace Vm
open PySem L2 L3
end Vm
set_option Elab.async false
set_option linter.all false
set_option maxRecDepth 100000
set_option maxHeartbeats 4000000
namespace L3
open PySem PySem.Spec PyProof.Rows L2
section
variable {M : Model} {A : Around} {E : Value → Shared → Prop} {s : Shared}
end
section
variable {M : Model} {A : Around} {E : Value → Shared → Prop}
end
section
variable {P : Program} {w : World} {H H' : Hp} {h h1 h2 : Heap} {fs fs' S ex : List Addr}
end
section
variable {X : Cx} {pins : List (Addr × Obj)} {σ : L2.St} {H : Hp} {s : Shared} {S : List Addr}
end
section
variable {P : Program} {w : World} {K : PySem.W.Frag} {mg : Str → Option Value} {base : Heap} {N : List Str} {qual : Str} {scope : Scope} {f : Addr} {cd : Value} {A : Around} {outer : List Env} {s0 : Shared} {H0 : Hp} {E : XK}
end
section
variable {X : Cx} {x : Str} {C : Addr} {a : Expr} {ta : TE} {E : XK} {np cpos pos : Pos}
end
section
variable {X : Cx} {pins : List (Addr × Obj)} {σ : L2.St} {H : Hp} {s : Shared} {ea : Addr}
end
section
variable {X : Cx} {CX : CXT} {k : Nat} {f : Addr} {fd : FuncData} {ps : List Str} {sp : Sp} {fx x n c : Str} {e : Expr} {es : List Expr} {ta : TA} {p pos : Pos}
end
end L3
set_option Elab.async false
set_option linter.all false
set_option maxRecDepth 100000
set_option maxHeartbeats 4000000
namespace L3
open PySem PySem.Spec PyProof.Rows L2
def EqQ (K : PySem.W.Frag) (H : Hp) : Nat → V → V → Bool → Prop
  | 0, x, y, b => flatV x = true ∧ flatV y = true ∧ b = eqV x y
  | n + 1, x, y, b => EqQ K H n x y b ∨ ∃ (p r : Addr) (xs ys : List V) (e : Nat → Bool), x = .ref p ∧ y = .ref r ∧ ((SqL K H p xs ∧ SqL K H r ys) ∨ (SqT K H p xs ∧ SqT K H r ys)) ∧
      (∀ (i : Nat) (x y : V), xs[i]? = some x → ys[i]? = some y → EqQ K H n x y (e i)) ∧ b = (decide (xs.length = ys.length) && (List.range xs.length).all e)
def EqS (K : PySem.W.Frag) (H : Hp) (n : Nat) (x y : V) (b : Bool) : Prop := ∃ (p r : Addr) (xs ys : List V) (e : Nat → Bool), x = .ref p ∧ y = .ref r ∧ ((SqL K H p xs ∧ SqL K H r ys) ∨ (SqT K H p xs ∧ SqT K H r ys)) ∧
      (∀ (i : Nat) (x y : V), xs[i]? = some x → ys[i]? = some y → EqQ K H n x y (e i)) ∧ b = (decide (xs.length = ys.length) && (List.range xs.length).all e)
theorem EqS.q {K : PySem.W.Frag} {H : Hp} {n : Nat} {x y : V} {b : Bool} (h : EqS K H n x y b) : EqQ K H (n + 1) x y b := .inr h
theorem EqQ.flat {K : PySem.W.Frag} {H : Hp} {x y : V} (hx : flatV x = true) (hy : flatV y = true) : ∀ n, EqQ K H n x y (eqV x y)
  | 0 => ⟨hx, hy, rfl⟩
  | n + 1 => .inl (EqQ.flat hx hy n)
theorem eqV_self {x : V} (h : flatV x = true) : eqV x x = true := by
  cases x with
  | non => rfl
  | bl b => show (b == b) = true; simp
  | int b => show (b == b) = true; simp
  | str b => show (b == b) = true; simp
  | _ => exact absurd (show false = true from h) Bool.false_ne_true
theorem EqQ.self {K : PySem.W.Frag} {H : Hp} {x : V} (hx : flatV x = true) (n : Nat) : EqQ K H n x x true := by
  have := EqQ.flat (K := K) (H := H) hx hx n
  rw [eqV_self hx] at this; exact this
theorem all_true (n : Nat) : (List.range n).all (fun _ => true) = true := by simp
theorem EqS.yes {K : PySem.W.Frag} {H : Hp} {n : Nat} {p r : Addr} {xs ys : List V} (h : (SqL K H p xs ∧ SqL K H r ys) ∨ (SqT K H p xs ∧ SqT K H r ys)) (hl : xs.length = ys.length) (he : ∀ (i : Nat) (x y : V), xs[i]? = some x → ys[i]? = some y → EqQ K H n x y true) : EqS K H n (.ref p) (.ref r) true :=
  ⟨p, r, xs, ys, fun _ => true, rfl, rfl, h, he, by rw [decide_eq_true hl, all_true]; rfl⟩
theorem EqS.same {K : PySem.W.Frag} {H : Hp} {p r : Addr} {xs : List V} (h : (SqL K H p xs ∧ SqL K H r xs) ∨ (SqT K H p xs ∧ SqT K H r xs)) (hf : xs.all flatV = true) : EqS K H 0 (.ref p) (.ref r) true :=
  EqS.yes h rfl fun i x y hx hy => by
    rw [hx] at hy; cases hy
    exact EqQ.self (List.all_eq_true.mp hf x (List.mem_of_getElem? hx)) 0
theorem EqS.strs {K : PySem.W.Frag} {H : Hp} {p r : Addr} {xs ys : List Str} (h : (SqL K H p (xs.map V.str) ∧ SqL K H r (ys.map V.str)) ∨ (SqT K H p (xs.map V.str) ∧ SqT K H r (ys.map V.str))) : EqS K H 0 (.ref p) (.ref r) (decide (xs = ys)) := by
  refine ⟨p, r, _, _, fun i => decide (xs[i]? = ys[i]?), rfl, rfl, h, fun i x y hx hy => ?_, ?_⟩
  · rw [List.getElem?_map] at hx hy
    cases ex : xs[i]? with
    | none => rw [ex] at hx; cases hx
    | some a =>
      cases ey : ys[i]? with
      | none => rw [ey] at hy; cases hy
      | some b =>
        rw [ex] at hx; rw [ey] at hy
        cases hx; cases hy
        refine ⟨rfl, rfl, ?_⟩
        show _ = (a == b)
        rw [Bool.eq_iff_iff, decide_eq_true_eq, ex, ey]; simp
  · rw [List.length_map, List.length_map, Bool.eq_iff_iff, decide_eq_true_eq, Bool.and_eq_true, decide_eq_true_eq, List.all_eq_true]
    constructor
    · rintro rfl
      exact ⟨rfl, fun i _ => decide_eq_true rfl⟩
    · rintro ⟨hl, ha⟩
      refine List.ext_getElem? fun i => ?_
      by_cases hi : i < xs.length
      · exact of_decide_eq_true (ha i (List.mem_range.mpr hi))
      · rw [List.getElem?_eq_none (by omega), List.getElem?_eq_none (by omega)]
section
variable {X : Cx} {pins : List (Addr × Obj)} {σ : L2.St} {H : Hp} {s : Shared}
theorem eqq_self (I : Inv X pins σ H s) : ∀ {n : Nat} {x : V} {b : Bool}, EqQ X.K H n x x b → b = true
  | 0, x, b, h => by
    obtain ⟨h1, _, e⟩ := h
    rw [e]; exact eqV_self h1
  | n + 1, x, b, h => by
    rcases h with h | ⟨p, r, xs, ys, e, e1, e2, hq, he, rfl⟩
    · exact eqq_self I h
    · rw [e1] at e2; cases e2
      have exy : xs = ys := by
        rcases hq with ⟨a, c⟩ | ⟨a, c⟩
        · exact I.list_inj a c
        · exact I.tuple_inj a c
      subst exy
      rw [decide_eq_true rfl, Bool.true_and, List.all_eq_true]
      intro i hi
      have hlt := List.mem_range.mp hi
      exact eqq_self I (he i xs[i] xs[i] (List.getElem?_eq_getElem hlt) (List.getElem?_eq_getElem hlt))
theorem vals_at {xs : List V} {us : List Value} (r : Vals xs us) {j : Nat} (h : j < us.length) : ∃ x, xs[j]? = some x ∧ RelV x us[j] := by
  have hx : j < xs.length := by rw [r.length]; exact h
  obtain ⟨u, e, q⟩ := r.get (List.getElem?_eq_getElem hx)
  rw [List.getElem?_eq_getElem h] at e
  cases e
  exact ⟨_, List.getElem?_eq_getElem hx, q⟩
theorem rng_min {a b : Nat} {e : Nat → Bool} : ((List.range (min a b)).all e && a == b) = (decide (a = b) && (List.range a).all e) := by
  by_cases h : a = b
  · subst h; simp
  · simp [h]
theorem eqs_rc {n : Nat} {A : Around} (I : Inv X pins σ H s) (hu : A.units + 1 < cLine) (ih : ∀ (x y : V) (b : Bool) (u v : Value), RelV x u → RelV y v → EqQ X.K H n x y b → SeqAt.EqAt A.in1 s u v b)
    {p r : Addr} {xs ys : List V} {e : Nat → Bool} (hq : (SqL X.K H p xs ∧ SqL X.K H r ys) ∨ (SqT X.K H p xs ∧ SqT X.K H r ys)) (he : ∀ (i : Nat) (x y : V), xs[i]? = some x → ys[i]? = some y → EqQ X.K H n x y (e i)) :
    SeqAt.RcAt A s (.ref p) (.ref r) (decide (xs.length = ys.length) && (List.range xs.length).all e) := by
  have hu' : A.units < cLine := by omega
  rcases hq with ⟨a, c⟩ | ⟨a, c⟩
  · obtain ⟨is, r1, p1, z1⟩ := I.list a
    obtain ⟨js, r2, p2, z2⟩ := I.list c
    have l1 := r1.length
    have l2 := r2.length
    by_cases hl : xs.length = ys.length
    · rw [decide_eq_true hl, Bool.true_and]
      have q := SeqAt.RcAt.lists (e := e) p1.isList p2.isList (by rw [List.size_toArray, List.size_toArray]; omega) hu' fun j h1 h2 => by
        rw [List.size_toArray] at h1 h2
        obtain ⟨x, ex, rx⟩ := vals_at r1 h1
        obtain ⟨y, ey, ry⟩ := vals_at r2 h2
        rw [List.getElem_toArray, List.getElem_toArray]
        exact ih x y _ _ _ rx ry (he j x y ex ey)
      rw [List.size_toArray, ← l1] at q
      exact q
    · rw [decide_eq_false hl, Bool.false_and]
      exact SeqAt.RcAt.lists_lengths p1.isList p2.isList (by rw [List.size_toArray, List.size_toArray]; simp; omega) hu'
  · obtain ⟨is, r1, p1, z1⟩ := I.tuple a
    obtain ⟨js, r2, p2, z2⟩ := I.tuple c
    have l1 := r1.length
    have l2 := r2.length
    have q := SeqAt.RcAt.tuples (e := e) p1 p2 hu' fun j h1 h2 => by
      rw [List.size_toArray] at h1 h2
      obtain ⟨x, ex, rx⟩ := vals_at r1 h1
      obtain ⟨y, ey, ry⟩ := vals_at r2 h2
      rw [List.getElem_toArray, List.getElem_toArray]
      exact ih x y _ _ _ rx ry (he j x y ex ey)
    rw [List.size_toArray, List.size_toArray, ← l1, ← l2, rng_min] at q
    exact q
theorem eqs_ne {n : Nat} {A : Around} (I : Inv X pins σ H s) (hu : A.units + 1 < cLine) (ih : ∀ (x y : V) (b : Bool) (u v : Value), RelV x u → RelV y v → EqQ X.K H n x y b → SeqAt.EqAt A.in1 s u v b)
    {p r : Addr} {xs ys : List V} {e : Nat → Bool} (hq : (SqL X.K H p xs ∧ SqL X.K H r ys) ∨ (SqT X.K H p xs ∧ SqT X.K H r ys)) (he : ∀ (i : Nat) (x y : V), xs[i]? = some x → ys[i]? = some y → EqQ X.K H n x y (e i)) :
    SeqAt.RcNeAt A s (.ref p) (.ref r) (!(decide (xs.length = ys.length) && (List.range xs.length).all e)) := by
  have hu' : A.units < cLine := by omega
  rcases hq with ⟨a, c⟩ | ⟨a, c⟩
  · obtain ⟨is, r1, p1, z1⟩ := I.list a
    obtain ⟨js, r2, p2, z2⟩ := I.list c
    have l1 := r1.length
    have l2 := r2.length
    by_cases hl : xs.length = ys.length
    · rw [decide_eq_true hl, Bool.true_and]
      have q := SeqAt.RcNeAt.lists (e := e) p1.isList p2.isList (by rw [List.size_toArray, List.size_toArray]; omega) hu' fun j h1 h2 => by
        rw [List.size_toArray] at h1 h2
        obtain ⟨x, ex, rx⟩ := vals_at r1 h1
        obtain ⟨y, ey, ry⟩ := vals_at r2 h2
        rw [List.getElem_toArray, List.getElem_toArray]
        exact ih x y _ _ _ rx ry (he j x y ex ey)
      rw [List.size_toArray, ← l1] at q
      exact q
    · rw [decide_eq_false hl, Bool.false_and]
      exact SeqAt.RcNeAt.lists_lengths p1.isList p2.isList (by rw [List.size_toArray, List.size_toArray]; simp; omega) hu'
  · obtain ⟨is, r1, p1, z1⟩ := I.tuple a
    obtain ⟨js, r2, p2, z2⟩ := I.tuple c
    have l1 := r1.length
    have l2 := r2.length
    have q := SeqAt.RcNeAt.tuples (e := e) p1 p2 hu' fun j h1 h2 => by
      rw [List.size_toArray] at h1 h2
      obtain ⟨x, ex, rx⟩ := vals_at r1 h1
      obtain ⟨y, ey, ry⟩ := vals_at r2 h2
      rw [List.getElem_toArray, List.getElem_toArray]
      exact ih x y _ _ _ rx ry (he j x y ex ey)
    rw [List.size_toArray, List.size_toArray, ← l1, ← l2, rng_min] at q
    exact q
theorem eqq_at (I : Inv X pins σ H s) : ∀ {n : Nat} {A : Around} {x y : V} {b : Bool} {u v : Value}, A.units + n < cLine → RelV x u → RelV y v → EqQ X.K H n x y b → SeqAt.EqAt A s u v b
  | 0, A, x, y, b, u, v, hu, rx, ry, h => by
    obtain ⟨h1, h2, e⟩ := h
    rw [e]; exact eqAt_V rx ry h1 h2
  | n + 1, A, x, y, b, u, v, hu, rx, ry, h => by
    rcases h with h | ⟨p, r, xs, ys, e, rfl, rfl, hq, he, hb⟩
    · exact eqq_at I (by omega) rx ry h
    · cases rx; cases ry
      by_cases hp : p = r
      · subst hp
        have := eqq_self I (n := n + 1) (.inr ⟨p, p, xs, ys, e, rfl, rfl, hq, he, hb⟩)
        rw [this]; exact SeqAt.EqAt.same _
      · rw [hb]
        exact SeqAt.EqAt.of_refs hp (eqs_rc I (by omega) (fun x y b u v rx ry q => eqq_at I (A := A.in1) (by show A.units + 1 + n < cLine; omega) rx ry q) hq he)
theorem op_eqS (hu : X.A.units + 64 < cLine) : OpR X (compareOp .Eq) (fun x y H Q => ∃ n b, n ≤ 20 ∧ EqS X.K H n x y b ∧ Q (.bl b) H) := by
  intro pins s σ H x y v u Q I rx ry h
  obtain ⟨n, b, hn, ⟨p, r, xs, ys, e, rfl, rfl, hq, he, rfl⟩, q⟩ := h
  cases rx; cases ry
  exact eqs_rc I (by omega) (fun x y b u v rx ry q => eqq_at I (A := X.A.in1) (by show X.A.units + 1 + n < cLine; omega) rx ry q) hq he _ _ _ _ ⟨.bl _, H, I, rfl, q⟩
theorem op_neS (hu : X.A.units + 64 < cLine) : OpR X (compareOp .NotEq) (fun x y H Q => ∃ n b, n ≤ 20 ∧ EqS X.K H n x y b ∧ Q (.bl (!b)) H) := by
  intro pins s σ H x y v u Q I rx ry h
  obtain ⟨n, b, hn, ⟨p, r, xs, ys, e, rfl, rfl, hq, he, rfl⟩, q⟩ := h
  cases rx; cases ry
  exact eqs_ne I (by omega) (fun x y b u v rx ry q => eqq_at I (A := X.A.in1) (by show X.A.units + 1 + n < cLine; omega) rx ry q) hq he _ _ _ _ ⟨.bl _, H, I, rfl, q⟩
end
end L3
namespace L3
open PySem PySem.Spec PyProof.Rows L2 PySem.W
section
variable {M : Model} {A : Around} {E : Value → Shared → Prop} {s : Shared}
end
section
variable {prog : Program} {w : World} {A : Around} {E : Value → Shared → Prop} {s : Shared} {K : PySem.W.Frag} {x D : Addr} {ox : Obj}
end
end L3
namespace L3
open PySem PySem.Spec PyProof.Rows L2
open PySem.W in
section
variable {X : Cx}
end
section
variable {X : Cx} {K : PySem.W.Frag}
theorem call_isiK (hK : X.K = K) : CallR X (.builtin "isinstance") (fun xs H Q => ∃ x n t b, xs = [x, .ty n] ∧ TyOf K H x t ∧ PySem.W.kitOne K t (.type n) = some b ∧ Q (.bl b) H) := by subst hK; exact call_isi
theorem ix_listK (hK : X.K = K) : IxR X (rIxL K) := by subst hK; exact ix_list
theorem ix_tupK (hK : X.K = K) : IxR X (rIxT K) := by subst hK; exact ix_tup
theorem call_len_seqK (hK : X.K = K) : CallR X (.builtin "len") (fun xs H Q => ∃ p ys, xs = [.ref p] ∧ (SqL K H p ys ∨ SqT K H p ys) ∧ Q (.int ys.length) H) := by subst hK; exact call_len_seq
end
end L3
set_option Elab.async false
set_option linter.all false
set_option maxRecDepth 100000
set_option maxHeartbeats 4000000
namespace Vm
open PySem PySem.Spec PyProof.Rows L2 L3
theorem cut_any (ns : List Int) (lo hi : Option Int) : ∃ ms : List Int, cutV (ns.map V.int) lo hi = ms.map V.int ∧ ms.length ≤ ns.length ∧ ∀ m ∈ ms, m ∈ ns := by
  unfold cutV
  refine ⟨(ns.drop (HT.sIx (ns.map V.int).length 0 lo)).take (HT.sIx (ns.map V.int).length (ns.map V.int).length hi - HT.sIx (ns.map V.int).length 0 lo), ?_, ?_, fun m hm => List.mem_of_mem_drop (List.mem_of_mem_take hm)⟩
  · rw [List.map_take, List.map_drop]
  · rw [List.length_take, List.length_drop]; omega
end Vm
set_option Elab.async false
set_option linter.all false
set_option maxRecDepth 100000
set_option maxHeartbeats 4000000
namespace L3
open PySem PySem.Spec PyProof.Rows L2
section
variable {X : Cx}
end
end L3
namespace Vm
open PySem PySem.Spec PyProof.Rows L2 L3 PySem.NumText
end Vm
set_option Elab.async false
set_option linter.all false
set_option maxRecDepth 100000
set_option maxHeartbeats 4000000
namespace HT
open PySem PySem.Spec PyProof.Rows
section
variable {prog : Program} {w : World} {A : Around} {E : Value → Shared → Prop} {s : Shared}
theorem cut_whole {t sl : Addr} {items : Array Value} {vl vu : Value} {lo hi : Option Int} {Q : Value → Shared → Prop} (ht : IsTup s.heap t items) (hs : s.heap.IsSliceOf sl vl vu .none) (pl : IsPart vl lo) (pu : IsPart vu hi)
    (hw : sIx items.size 0 lo = 0 ∧ sIx items.size items.size hi = items.size) (h : Q (.ref t) s) : wpAny (model prog w) A (getItem (.ref t) (.ref sl)) Q E s := by
  obtain ⟨os, hos, hcs, hds⟩ := id hs
  have hTs : s.TypeIs (.ref sl) "slice" := ⟨os, hos, hcs⟩
  unfold getItem
  try with_reducible refine wpAny_holding ?_
  first | refine wpAny_bind (wpAny_pure ?_) | skip
  refine wpAny_bind (wpAny_sequenceKey ht.typeIs (by decide) ?_)
  refine wpAny_bind (wpAny_callSpecial?_slot (name := Str.ofString "__getitem__") ht.typeIs PyProof.Rows.slot_tuple_getitem
    (wpAny_call_entry PyProof.Rows.slot_tuple_getitem ht.typeIs entry_tuple_getitem ?_ (args_tuple_getitem _ _)))
  show wpAny _ _ (Builtin.Tuple.tupleItemsOf (.ref t) >>= _) _ _ s
  refine wpAny_bind (tupleItemsOf_ ht ?_)
  refine wpAny_bind (wpAny_typeOf hTs ?_)
  rw [if_pos (by decide)]
  refine wpAny_bind (sliceApplied_gen hs pl pu ?_)
  have hyes : (((sIx items.size 0 lo : Nat) : Int) == 0 && (1 : Int) == 1 && (sIx items.size items.size hi - sIx items.size 0 lo) == items.size) = true := by
    rw [hw.1, hw.2]; simp
  show wpAny _ _ (if (((sIx items.size 0 lo : Nat) : Int) == 0 && (1 : Int) == 1 && (sIx items.size items.size hi - sIx items.size 0 lo) == items.size) = true then _ else _) _ _ s
  rw [if_pos hyes]
  unfold Builtin.Tuple.tupleIsExact
  refine wpAny_bind (wpAny_bind (wpAny_typeOf ht.typeIs (wpAny_pure ?_)))
  rw [if_pos (by decide)]
  first
    | exact wpAny_bind (wpAny_rule (wpAny_pure ⟨_, rfl, wpAny_pure h⟩))
    | exact wpAny_bind (wpAny_rule (wpAny_bind (wpAny_pure (wpAny_pure ⟨_, rfl, wpAny_pure h⟩))))
    | exact wpAny_bind (wpAny_bind (wpAny_rule (wpAny_pure (wpAny_pure ⟨_, rfl, wpAny_pure h⟩))))
end
end HT
namespace L3
open PySem PySem.Spec PyProof.Rows L2
section
variable {X : Cx}
def rSlTA (K : PySem.W.Frag) : V → Option Int → Option Int → Hp → VK → Prop := fun x lo hi H Q => ∃ (a : Addr) (xs : List V), x = .ref a ∧ SqT K H a xs ∧
  ((HT.sIx xs.length 0 lo = 0 ∧ HT.sIx xs.length xs.length hi = xs.length) → Q (.ref a) H) ∧ (¬ (HT.sIx xs.length 0 lo = 0 ∧ HT.sIx xs.length xs.length hi = xs.length) → ∀ p, H p = none → Q (.ref p) (upd H p (.tup (cutV xs lo hi))))
theorem sl_tupA : SlR X (rSlTA X.K) := by
  intro pins s σ H x v vl vu lo hi sl Q I rx hs pl pu h
  obtain ⟨a, xs, rfl, hx, q1, q2⟩ := h
  by_cases hw : HT.sIx xs.length 0 lo = 0 ∧ HT.sIx xs.length xs.length hi = xs.length
  · cases rx
    obtain ⟨its, r, ht, hz⟩ := I.tuple hx
    have hlen : its.toArray.size = xs.length := by rw [List.size_toArray]; exact r.length.symm
    refine ⟨"tuple", _, PyProof.Rows.slot_tuple_getitem.lookup, ht.typeIs, ?_⟩
    exact HT.cut_whole ht hs pl pu (by rw [hlen]; exact hw) ⟨.ref a, H, I, rfl, q1 hw⟩
  · exact sl_tup pins s σ H _ v vl vu lo hi sl Q I rx hs pl pu ⟨a, xs, rfl, hx, hw, q2 hw⟩
end
end L3
namespace Vm
open PySem PySem.Spec PyProof.Rows L2 L3
theorem iteK {c A B : Prop} [Decidable c] (h : ¬ c) (hb : B) : if decide c = true then A else B := by rw [decide_eq_false h]; exact hb
theorem iteY {c A B : Prop} [Decidable c] (h : c) (ha : A) : if decide c = true then A else B := by rw [decide_eq_true h]; exact ha
inductive Sk where
  | keep | lose | twice | swap | turn (w : Str) | add (w : Str) | skip (m : Nat)
def stepV : Sk → List V
  | .keep => [.str (Str.ofString "keep")]
  | .lose => [.str (Str.ofString "lose")]
  | .twice => [.str (Str.ofString "twice")]
  | .swap => [.str (Str.ofString "swap")]
  | .turn w => [.str (Str.ofString "turn"), .str w]
  | .add w => [.str (Str.ofString "add"), .str w]
  | .skip m => [.str (Str.ofString "skip"), .int (m : Nat)]
def okS : Sk → Prop
  | .skip m => 1 ≤ m ∧ m ≤ 1000
  | .turn w => Good w
  | .add w => Good w
  | _ => True
def skipB (es : List Str) (d m : Nat) : Bool := decide (1 ≤ d ∧ d + m ≤ es.length) && decide (es[d + m - 1]? = es[d - 1]?)
def fitsB (es : List Str) (d : Nat) (last : Option Str) : Sk → Bool
  | .keep => decide (d < es.length)
  | .lose => decide (d < es.length)
  | .twice => last.isSome
  | .swap => decide (d + 1 < es.length) && !decide (es[d]? = es[d + 1]?)
  | .turn w => decide (d < es.length) && !decide (es[d]? = some w)
  | .add _ => true
  | .skip m => skipB es d m
def wd : Sk → Nat
  | .add _ => 0
  | .twice => 0
  | .swap => 2
  | .skip m => m
  | _ => 1
def gt (es : List Str) (d : Nat) : Str := (es[d]?).getD (Str.ofString "")
def ww (es : List Str) (d : Nat) (last : Option Str) : Sk → List Str
  | .lose => []
  | .skip _ => []
  | .turn w => [w]
  | .add w => [w]
  | .twice => last.toList
  | .swap => [gt es (d + 1), gt es d]
  | .keep => [gt es d]
def after (es : List Str) (d : Nat) (last : Option Str) (st : Sk) : Option (Nat × List Str) := if fitsB es d last st = true then some (d + wd st, ww es d last st) else none
theorem gt_of {es : List Str} {d : Nat} (h : d < es.length) : es[d]? = some (gt es d) := by
  unfold gt
  rw [List.getElem?_eq_getElem h]; rfl
theorem at_w {es : List Str} {d : Nat} (h : d < es.length) : atI (es.map V.str) (d : Int) = some (.str (gt es d)) := atI_nat (by rw [List.getElem?_map, gt_of h]; rfl)
theorem str_dec (a b : Str) : decide (V.str a = V.str b) = decide (a = b) := decide_eq_decide.mpr ⟨fun e => by injection e, fun e => by rw [e]⟩
theorem some_dec {es : List Str} {d : Nat} (h : d < es.length) (b : Str) : decide (es[d]? = some b) = decide (gt es d = b) := by
  rw [gt_of h]
  exact decide_eq_decide.mpr ⟨fun e => Option.some.inj e, fun e => by rw [e]⟩
theorem gt_mem {es : List Str} {d : Nat} (h : d < es.length) : gt es d ∈ es := List.mem_of_getElem? (gt_of h)
end Vm
set_option Elab.async false
set_option linter.all false
set_option maxRecDepth 100000
set_option maxHeartbeats 4000000
namespace L3
open PySem PySem.Spec PyProof.Rows L2
section
variable {X : Cx} {pins : List (Addr × Obj)} {σ : L2.St} {H H' : Hp} {s : Shared} {b : Addr}
end
section
variable {X : Cx} {E : XK} {e : Value} {s : Shared}
end
section
variable {P : Program} {w : World} {K : PySem.W.Frag} {mg : Str → Option Value} {base : Heap} {N : List Str} {qual : Str} {scope : Scope} {f : Addr} {cd : Value} {A : Around} {outer : List Env} {s0 : Shared} {H0 : Hp} {E : XK}
end
end L3
set_option Elab.async false
set_option linter.all false
set_option maxRecDepth 100000
set_option maxHeartbeats 4000000
namespace L3
open PySem PySem.Spec PyProof.Rows L2
section
variable {X : Cx} {k : Nat} {f : Addr} {fd : FuncData} {ps : List Str} {sp : Sp} {fx x c : Str} {e : Expr} {es : List Expr} {ta : TA} {p pos : Pos}
end
end L3
namespace Vm
open PySem PySem.Spec PyProof.Rows L2 L3
abbrev WS := Nat × List Str × List Nat
def walk1 (es : List Str) (x : WS) (st : Sk) : Option WS := (after es x.1 x.2.1.getLast? st).map fun y => (y.1, x.2.1 ++ y.2, x.2.2 ++ [x.1])
def walk (es : List Str) : List Sk → WS → Option WS
  | [], x => some x
  | st :: r, x => (walk1 es x st).bind (walk es r)
theorem walk_append (es : List Str) : ∀ (a b : List Sk) (x : WS), walk es (a ++ b) x = (walk es a x).bind (walk es b)
  | [], b, x => rfl
  | st :: a, b, x => by
    show (walk1 es x st).bind (walk es (a ++ b)) = ((walk1 es x st).bind (walk es a)).bind (walk es b)
    cases walk1 es x st with
    | none => rfl
    | some y => exact walk_append es a b y
theorem walk_one (es : List Str) (st : Sk) (x : WS) : walk es [st] x = walk1 es x st := by
  show (walk1 es x st).bind (walk es []) = _
  cases walk1 es x st <;> rfl
theorem after_le {es : List Str} {d : Nat} {last : Option Str} {st : Sk} {y : Nat × List Str} (h : after es d last st = some y) (hd : d ≤ es.length) : y.1 ≤ es.length := by
  unfold after at h
  split at h
  · rename_i hf
    cases h
    show d + wd st ≤ es.length
    cases st with
    | keep => have := of_decide_eq_true hf; show d + 1 ≤ _; omega
    | lose => have := of_decide_eq_true hf; show d + 1 ≤ _; omega
    | twice => exact hd
    | add _ => exact hd
    | swap => have := of_decide_eq_true (Bool.and_eq_true_iff.mp hf).1; show d + 2 ≤ _; omega
    | turn _ => have := of_decide_eq_true (Bool.and_eq_true_iff.mp hf).1; show d + 1 ≤ _; omega
    | skip m =>
      have h2 : (decide (1 ≤ d ∧ d + m ≤ es.length) && decide (es[d + m - 1]? = es[d - 1]?)) = true := hf
      have := of_decide_eq_true (Bool.and_eq_true_iff.mp h2).1
      exact this.2
  · cases h
theorem ww_len (es : List Str) (d : Nat) (last : Option Str) (st : Sk) : (ww es d last st).length ≤ 2 := by
  cases st with
  | twice => cases last <;> simp [ww]
  | _ => simp [ww]
theorem after_len {es : List Str} {d : Nat} {last : Option Str} {st : Sk} {y : Nat × List Str} (h : after es d last st = some y) : y.2.length ≤ 2 := by
  unfold after at h
  split at h
  · cases h; exact ww_len es d last st
  · cases h
theorem walk_turn {es : List Str} {sts : List Sk} {i : Nat} {st : Sk} {d : Nat} {cp : List Str} {pl : List Nat} (hi : sts[i]? = some st) (hw : walk es (sts.take i) (0, [], []) = some (d, cp, pl)) :
    walk es (sts.take (i + 1)) (0, [], []) = (after es d cp.getLast? st).map fun y => (y.1, cp ++ y.2, pl ++ [d]) := by
  have hl := (List.getElem?_eq_some_iff.mp hi).1
  rw [List.take_succ_eq_append_getElem hl, (List.getElem?_eq_some_iff.mp hi).2, walk_append, hw]
  exact walk_one es st _
structure StepsAt (K : PySem.W.Frag) (H : Hp) (ts : List Addr) (sts : List Sk) : Prop where
  len : ts.length = sts.length
  item : ∀ (i : Nat) (t : Addr) (st : Sk), ts[i]? = some t → sts[i]? = some st → SqT K H t (stepV st) ∧ okS st
theorem sameT {K : PySem.W.Frag} {H H' : Hp} {a : Addr} {xs : List V} (S : Same H H') (h : SqT K H a xs) : SqT K H' a xs := by
  rcases h with (h | ⟨o, h⟩) | h
  · exact .inl (.inl (S _ _ h))
  · exact .inl (.inr ⟨o, S _ _ h⟩)
  · exact .inr h
theorem ref_at {ts : List Addr} {i : Nat} {y : V} (hi : (ts.map V.ref)[i]? = some y) : ∃ t, ts[i]? = some t ∧ y = .ref t := by
  rw [List.getElem?_map] at hi
  cases e : ts[i]? with
  | none => rw [e] at hi; cases hi
  | some t => rw [e] at hi; exact ⟨t, rfl, (Option.some.inj hi).symm⟩
theorem last_at {cp : List Str} (h : 0 < cp.length) : ∃ l, cp.getLast? = some l ∧ atI (cp.map V.str) (-1) = some (.str l) := by
  obtain ⟨r, z, rfl⟩ : ∃ r z, cp = r ++ [z] := ⟨cp.dropLast, cp.getLast (by intro e; rw [e] at h; exact absurd h (by decide)), (List.dropLast_concat_getLast _).symm⟩
  refine ⟨z, by simp, ?_⟩
  rw [List.map_append]
  exact atI_last _ _
end Vm
set_option Elab.async false
set_option linter.all false
set_option maxRecDepth 100000
set_option maxHeartbeats 4000000
namespace L3
open PySem PySem.Spec PyProof.Rows L2
section
variable {prog : Program} {w : World}
section
variable {A : Around} {E : Value → Shared → Prop} {s : Shared} {z TI TO i1 i2 t1 t2 : Addr} {xs ys : Array Value} {S1 S2 : Nat → Heap → Prop} {k : Nat}
end
end
end L3
namespace L3
open PySem PySem.Spec PyProof.Rows L2
section
variable {X : Cx} {pins : List (Addr × Obj)} {σ : L2.St} {H : Hp} {s : Shared} {h' : Heap}
end
section
variable {prog : Program} {w : World} {A : Around} {E : Value → Shared → Prop} {s : Shared} {z TI TO i1 i2 t1 t2 : Addr} {xs ys : Array Value} {k : Nat}
end
section
variable {X : Cx} {es : List Expr} {x1 : Nat} {tpos : Pos}
def rIxOf : V → List V → Hp → VK → Prop := fun x vs H Q => ∃ (l : Addr) (ws : List Str) (z : Str) (j : Nat), x = .ref l ∧ vs = [.str z] ∧ H l = some (.lst (ws.map V.str)) ∧ ws[j]? = some z ∧ (∀ m, m < j → ws[m]? ≠ some z) ∧ ws.length ≤ 1000 ∧ Q (.int (j : Nat)) H
theorem mt_indexL : MtM X "list.index" rIxOf := by
  intro pins s σ H x vs v us Q I rx rv h
  obtain ⟨l, ws, z, j, rfl, rfl, hH, hj, hno, hw, q⟩ := h
  cases rx
  obtain ⟨u, rfl, ru⟩ := rv.one
  obtain ⟨t, rfl⟩ := ru
  obtain ⟨zz, its, n, r, hl, e⟩ := I.lstM hH
  have hjl : j < ws.length := (List.getElem?_eq_some_iff.mp hj).1
  have hits : its.length = ws.length := by rw [← hl, List.length_map]
  have at' : ∀ m (hm : m < its.length), ∃ (y : Str) (ty : Tok), its[m] = .str y ty ∧ ws[m]? = some y := fun m hm => by
    have hm' : m < ws.length := by omega
    obtain ⟨u, eu, ru⟩ := r.get (i := m) (x := V.str ws[m]) (by rw [List.getElem?_map, List.getElem?_eq_getElem hm']; rfl)
    rw [List.getElem?_eq_getElem hm] at eu
    cases eu
    obtain ⟨ty, ety⟩ := ru
    exact ⟨ws[m], ty, ety, List.getElem?_eq_getElem hm'⟩
  have flat : (ws.map V.str).all flatV = true := by rw [List.all_map, List.all_eq_true]; exact fun _ _ => rfl
  refine call_meets PySem.F.slot_list_index ⟨_, e, rfl⟩ PySem.F.entry_list_index (PySem.F.args_list_index_2 _ _)
    (SeqAt.list_indexAt l its.toArray n none #[] (.str z t) (eqU (.str z)) j (by rw [List.size_toArray]; omega) (by omega) ?_ ?_) ⟨e, fun y hy => mem_eqAt (x := .str z) (v := .str z t) ⟨t, rfl⟩ rfl r flat y (by simpa using hy), ⟨.int _, H, I.tok _, ⟨_, rfl⟩, q⟩⟩
  · obtain ⟨y, ty, e1, e2⟩ := at' j (by omega)
    rw [List.getElem_toArray, e1]
    rw [hj] at e2
    cases e2
    show (z == z) = true
    simp
  · intro m hm hmj
    rw [List.size_toArray] at hm
    obtain ⟨y, ty, e1, e2⟩ := at' m hm
    rw [List.getElem_toArray, e1]
    show (y == z) = false
    have : y ≠ z := fun q => hno m hmj (by rw [e2, q])
    simp [this]
theorem ix_dictM {K : PySem.W.Frag} (hK : X.K = K) {a : Addr} {es : Array DictEntry} {n : Nat} (hl : K.lookup a = some ⟨.type "dict", none, .dict es n, #[]⟩) (hk : PySem.W.KeysLit X.w.params es.toList) :
    IxR X (fun x y H Q => ∃ (z : Str) (v : V) (u : Value), x = .ref a ∧ y = .str z ∧ PySem.W.nsIn K a z = some (some u) ∧ RelV v u ∧ Q v H) := by
  subst hK
  intro value slice pins s σ H x y v u Q I rx ry h hs
  obtain ⟨z, v', u', rfl, rfl, e, rv, q⟩ := h
  cases rx
  obtain ⟨t, rfl⟩ := ry
  have hm := PySem.W.mapOf_K (prog := X.prog) I.kIn hl hk
  exact tail_any hm.typeIs PySem.F.slot_dict_getitem.lookup (wpAny_getItem_of (strKind_is X.prog X.w z t) hm (PySem.W.find_K hl e) ⟨v', H, I.tok _, rv, q⟩) hs
end
end L3
set_option Elab.async false
set_option linter.all false
set_option maxRecDepth 100000
set_option maxHeartbeats 4000000
namespace L3
open PySem PySem.Spec PyProof.Rows L2
section
variable {X : Cx}
end
end L3
namespace Vm
open PySem PySem.Spec PyProof.Rows L2 L3
section
open PySem.StrLaws Builtin Builtin.Str
end
structure TupsAt (H : Hp) (ts : List Addr) (sts : List Sk) : Prop where
  len : ts.length = sts.length
  item : ∀ (i : Nat) (t : Addr) (st : Sk), ts[i]? = some t → sts[i]? = some st → H t = some (.tup (stepV st)) ∧ okS st
theorem TupsAt.at {K : PySem.W.Frag} {H : Hp} {ts : List Addr} {sts : List Sk} (h : TupsAt H ts sts) : StepsAt K H ts sts :=
  ⟨h.len, fun i t st e1 e2 => ⟨SqT.of (h.item i t st e1 e2).1, (h.item i t st e1 e2).2⟩⟩
theorem TupsAt.mono {H H' : Hp} {ts : List Addr} {sts : List Sk} (S : Same H H') (h : TupsAt H ts sts) : TupsAt H' ts sts :=
  ⟨h.len, fun i t st e1 e2 => ⟨S _ _ (h.item i t st e1 e2).1, (h.item i t st e1 e2).2⟩⟩
theorem TupsAt.nil {H : Hp} : TupsAt H [] [] := ⟨rfl, fun i t st e _ => by simp at e⟩
theorem TupsAt.app {H : Hp} {ts us : List Addr} {sts sus : List Sk} (h : TupsAt H ts sts) (h2 : TupsAt H us sus) : TupsAt H (ts ++ us) (sts ++ sus) := by
  refine ⟨by rw [List.length_append, List.length_append, h.len, h2.len], fun i t st e1 e2 => ?_⟩
  by_cases hi : i < ts.length
  · rw [List.getElem?_append_left hi] at e1
    rw [List.getElem?_append_left (by rw [← h.len]; exact hi)] at e2
    exact h.item i t st e1 e2
  · rw [List.getElem?_append_right (by omega)] at e1
    rw [List.getElem?_append_right (by rw [← h.len]; omega), ← h.len] at e2
    exact h2.item _ t st e1 e2
theorem TupsAt.one {H : Hp} {t : Addr} {st : Sk} (h : H t = some (.tup (stepV st))) (ho : okS st) : TupsAt H [t] [st] := by
  refine ⟨rfl, fun i t' st' e1 e2 => ?_⟩
  cases i with
  | zero => cases e1; cases e2; exact ⟨h, ho⟩
  | succ i => simp at e1
theorem TupsAt.set {H : Hp} {l : Addr} {ts : List Addr} {sts : List Sk} {ys : List V} {o : HO} (h : TupsAt H ts sts) (hl : H l = some (.lst ys)) : TupsAt (upd H l o) ts sts :=
  ⟨h.len, fun i t st e1 e2 => ⟨by
    have e := (h.item i t st e1 e2).1
    have n : t ≠ l := fun z => by rw [z, hl] at e; cases e
    rw [upd_ne n]; exact e, (h.item i t st e1 e2).2⟩⟩
theorem freeNe {H : Hp} {p r : Addr} {o : HO} (h : upd H p o r = none) : r ≠ p ∧ H r = none := by
  have n : r ≠ p := fun e => by rw [e, upd_same] at h; cases h
  exact ⟨n, by rw [upd_ne n] at h; exact h⟩
theorem comp_grow {α : Type} {J : It} {H : Hp} {as : List α} {v : α → V} {te : TE} {Q : VK} {rest : L2.St} (I : Nat → List V → Hp → Prop) (hs : ∀ i acc H', i ≤ as.length → I i acc H' → Src J H' (as.map v)) (hz : as.length ≤ sizeLine) (h0 : I 0 [] H)
    (hl : ∀ i acc H', I i acc H' → acc.length = i) (he : ∀ i a acc H', as[i]? = some a → I i acc H' → ∀ k : VK, (∀ x H2, I (i + 1) (acc ++ [x]) H2 → k x H2) → te (some (v a) :: rest) H' k)
    (hq : ∀ acc H', I as.length acc H' → ∀ D, H' D = none → Q (.ref D) (upd H' D (.lst acc))) : wComp J (gName 0) tYes te Q (none :: rest) H := by
  refine ⟨fun i m σ acc H' => I i acc H' ∧ i ≤ as.length ∧ m = as.length - i ∧ ∃ o, σ = o :: rest, ⟨as.length, h0, Nat.zero_le _, rfl, none, rfl⟩, ?_⟩
  rintro i m σ acc H' ⟨hI, hi, rfl, o, rfl⟩
  have hacc := hl i acc H' hI
  have S := hs i acc H' hi hI
  by_cases hlt : i < as.length
  · refine .inr ⟨S.go i (by rw [List.length_map]; exact hlt), fun x H1 y => ?_⟩
    obtain ⟨rfl, hx⟩ := S.yld i x H1 (by rw [List.length_map]; exact hlt) y
    rw [List.getElem?_map, List.getElem?_eq_getElem hlt] at hx
    have hx' : v as[i] = x := Option.some.inj hx
    subst hx'
    show te (some (v as[i]) :: rest) H1 _
    exact he i as[i] acc H1 (List.getElem?_eq_getElem hlt) hI _ fun x H2 h2 => ⟨by omega, as.length - (i + 1), by omega, h2, hlt, rfl, _, rfl⟩
  · have ei : i = as.length := by omega
    subst ei
    exact .inl ⟨S.stop _ (by rw [List.length_map]; exact Nat.le_refl _), by omega, hq acc H' hI⟩
end Vm
set_option Elab.async false
set_option linter.all false
set_option maxRecDepth 100000
set_option maxHeartbeats 4000000
namespace L3
open PySem PySem.Spec PyProof.Rows L2
def Itr3 (lo c : Int) (n : Nat) : It := ⟨fun i _ => i < n, fun i H x H' => H' = H ∧ x = .int (lo + (i : Nat) * c), fun i _ => n ≤ i⟩
theorem turn_range3 {P : Program} {w : World} {K : PySem.W.Frag} {tg : Expr} (it : Addr) (lo c : Int) (n : Nat) : Turn P w K tg (Itr3 lo c n) [it] it (fun i h => IsRangeIter h it (lo + (i : Nat) * c) ((n : Int) - (i : Nat)) c) where
  mem := List.mem_singleton.mpr rfl
  obj := fun i h st b hb => by
    rw [List.mem_singleton.mp hb]
    exact ⟨_, st, fun v z => nomatch (show Data.fields _ = Data.cell v from z)⟩
  keep := fun i h h' st k => k it (List.mem_singleton.mpr rfl) _ st
  item := by
    intro X hP hw hK hc i pins s σ H E I hf st hg
    subst hP hw hK
    obtain ⟨f0, f1, f2, f3, f4, f5⟩ := hf it (List.mem_singleton.mpr rfl)
    refine (Walks.range (prog := X.prog) (w := X.w) (I.ok.hd hc) it lo c n).item i s _ _ hg st fun v h' tk hv st' kk => ?_
    obtain ⟨t, rfl⟩ := hv
    have I1 : Inv X pins σ H { s with heap := h', toks := tk } := I.turned (fun b o hb e => kk b o (fun z => hb (List.mem_singleton.mp z)) e) f0 f1 f3 f4 f5
    exact ⟨_, rfl, go_of (s := { s with heap := h', toks := tk }) (n := "range_iterator") st' rfl rfl (by decide) ⟨.int (lo + (i : Nat) * c), H, I1, ⟨t, rfl⟩, ⟨rfl, rfl⟩, st', fun b hb => (hf b hb).1⟩⟩
  done := by
    intro X hP hw hK hc i pins s σ H E I hf st hg
    subst hP hw hK
    obtain ⟨f0, f1, f2, f3, f4, f5⟩ := hf it (List.mem_singleton.mpr rfl)
    have hle : (n : Int) - (i : Nat) ≤ 0 := by have : n ≤ i := hg; omega
    exact wpAny_pyNext_range_end (I.ok.hd hc) st hle fun h' eb => ⟨rfl, I.turned (t' := s.toks) (fun b o hb e => eb b o hb e) f0 f1 f3 f4 f5⟩
  self := fun _ _ _ _ _ st h => wpAny_pyIter_rangeiter st h
section
variable {X : Cx} {tg : Expr}
theorem range_it3 {pins : List (Addr × Obj)} {σ : L2.St} {H : Hp} {s : Shared} {R : It → Hp → Prop} {E : Value → Shared → Prop} {lo hi c : Int} {n : Nat} {t u v : Tok} {tk : Nat} (I : Inv X pins σ H s) (hs : Builtin.Range.small lo hi c = true) (hn : Builtin.Range.rangeSize lo hi c = (n : Int))
    (q : R (Itr3 lo c n) H) : wpAny (model X.prog X.w) X.A (pyIter (.ref s.heap.objs.size)) (PIE X pins σ tg R) E { s with heap := s.heap.push { cls := .type "range", data := .fields #[.int lo t, .int hi u, .int c v] }, toks := tk } := by
  refine wpAny_pyIter_range (IsRange.new ..) hs ?_
  have I1 : Inv X pins σ H { s with heap := s.heap.push { cls := .type "range", data := .fields #[.int lo t, .int hi u, .int c v] }, toks := tk } := I.kept fun b o e => Heap.get?_push_of_some _ e
  generalize hg : s.heap.push { cls := .type "range", data := .fields #[.int lo t, .int hi u, .int c v] } = g at I1
  refine ⟨g.objs.size, [g.objs.size], _, _, H, rfl, I1.kept (t' := tk) fun b o e => Heap.get?_push_of_some _ e, turn_range3 _ lo c n, ?_, fun b hb => ?_, q⟩
  · show IsRangeIter _ _ (lo + ((0 : Nat) : Int) * c) ((n : Int) - ((0 : Nat) : Int)) c
    rw [show lo + ((0 : Nat) : Int) * c = lo by simp, show (n : Int) - ((0 : Nat) : Int) = Builtin.Range.rangeSize lo hi c by rw [hn]; simp]
    exact Heap.get?_push_size _ rfl
  · rw [List.mem_singleton.mp hb]
    exact I1.fpOk (Nat.le_refl _) (I1.hok.fresh (Nat.le_refl _))
def iRng3 (ta : TA) : TI := fun σ H R => ta σ H fun vs H1 => ∃ (i j c : Int) (n : Nat), vs = [.int i, .int j, .int c] ∧ c ≠ 0 ∧ c.natAbs < 1073741824 ∧ Builtin.Range.small i j c = true ∧ Builtin.Range.rangeSize i j c = (n : Int) ∧ R (Itr3 i c n) H1
theorem pi_range3 {a b d : Expr} {ta : TA} {p pos : Pos} (hg : Gl X "range") (hm : X.mg "range" = none) (ha : PA X [a, b, d] ta) (hs : starEach [a, b, d] X.env = [(false, eval a X.env), (false, eval b X.env), (false, eval d X.env)] := by rfl) (hs2 : starEach [b, d] X.env = [(false, eval b X.env), (false, eval d X.env)] := by rfl) :
    PI X tg (.Call (.Name "range" p) [a, b, d] [] pos) (iRng3 ta) := by
  intro pins s σ H R I h
  refine Call_ (ld_blt I hg hm boot_range (PyProof.Rows.callWith_type1 (thn (ha pos pins s σ H _ I h) fun us s1 ⟨vs, H1, I1, r1, q1⟩ => ?_) (by rw [hs, hs2]) (by rw [hs2]; rfl)))
  obtain ⟨i, j, c, n, e, hc, hc2, h1, h2, q⟩ := q1
  subst e
  cases r1 with
  | cons r rr =>
  cases rr with
  | cons r' rr =>
  cases rr with
  | cons r'' rr =>
    cases rr
    obtain ⟨t, rfl⟩ := r
    obtain ⟨t', rfl⟩ := r'
    obtain ⟨t'', rfl⟩ := r''
    exact call_range_3 hc (range_it3 I1 h1 h2 q) (Or.inl (PyProof.noPylong_small hc2))
theorem for_range3 {lo c : Int} {n : Nat} {g : TG} {tb : TS} {D : Ends} {σ : L2.St} {H : Hp} (Pv : Nat → L2.St → Hp → Prop) (h0 : Pv 0 σ H)
    (hs : ∀ i σ H, i < n → Pv i σ H → g (.int (lo + (i : Nat) * c)) σ H fun σ2 H2 => tb { D with nx := Pv (i + 1), ct := Pv (i + 1), bk := D.nx } σ2 H2) (hd : ∀ σ H, Pv n σ H → D.nx σ H) :
    ∃ W : Nat → Nat → L2.St → Hp → Prop, (∃ m, W 0 m σ H) ∧ ∀ i m σ H, W i m σ H →
      ((Itr3 lo c n).stop i H ∧ D.nx σ H) ∨ ((Itr3 lo c n).go i H ∧ ∃ N : L2.St → Hp → Prop, (∀ σ' H', N σ' H' → ∃ m', m' < m ∧ W (i + 1) m' σ' H') ∧ ∀ x H', (Itr3 lo c n).yld i H x H' → g x σ H' fun σ2 H2 => tb { D with nx := N, ct := N, bk := D.nx } σ2 H2) := by
  refine ⟨fun i m σ H => m = n - i ∧ i ≤ n ∧ Pv i σ H, ⟨n, by simp, Nat.zero_le _, h0⟩, ?_⟩
  rintro i m σ H ⟨rfl, hi, p⟩
  rcases Nat.lt_or_ge i n with hlt | hge
  · refine .inr ⟨hlt, Pv (i + 1), fun σ' H' p' => ⟨n - (i + 1), by omega, rfl, hlt, p'⟩, ?_⟩
    rintro x H' ⟨rfl, rfl⟩
    exact hs i σ _ hlt p
  · have e : i = n := by omega
    subst e
    exact .inl ⟨Nat.le_refl _, hd σ H p⟩
end
end L3
set_option Elab.async false
set_option linter.all false
set_option maxRecDepth 100000
set_option maxHeartbeats 4000000
namespace L3
open PySem PySem.Spec PyProof.Rows L2
section
variable {X : Cx}
theorem op_mulB : OpR X (binaryOp .Mult) (rI (fun i j => IntMulOk i j) fun i j => .int (i * j)) := opI fun _ _ _ _ _ _ _ hc q => mul_int q hc
end
end L3
namespace HT
open PySem PySem.Spec PyProof.Rows
section
variable {prog : Program} {w : World} {A : Around} {E : Value → Shared → Prop} {s : Shared}
end
end HT
namespace L3
open PySem PySem.Spec PyProof.Rows L2
section
variable {X : Cx} {e es : Expr} {te ts : TE} {pos p2 : Pos}
end
end L3
namespace L3
open PySem PySem.W PySem.Calls PySem.Spec PyProof.Rows L2
theorem bits_lay {ns : List Int} (h : WData.layableAll [WData.list (ns.map WData.int)] = true) : ∀ m ∈ ns, Builtin.Int.intBits m ≤ 1048576 := fun m hm => by
  have h1 : (WData.list (ns.map WData.int)).layable = true := layableW_arg h _ List.mem_cons_self
  have h2 : (WData.int m).layable = true := layableW_item h1 _ (List.mem_map.mpr ⟨m, hm, rfl⟩)
  exact PyData.bits_of_layable (layable0_of_all (lay0_int h2))
theorem walk_ofB {l : PySem.W.OpenLaw} {n k : Nat} {q : Program} {loose : List Str} {XP : (Str → Option Value) → Heap → Prop} {YP : World → Heap → Prop} {d : DefRec} {K : Params → PySem.W.Frag} {CX : World → CXT} {sp : World → Sp} {x : Str}
    (hn : l.most = some n) (hn2 : n ≤ sizeLine) (hdf : d.params.defaults = []) (hr : Room k callerA) (hY : ∀ (w : World) (h : Heap), YP w h → (K w.params).In h)
    (F : ∀ (w : World) (mg : Str → Option Value) (fa : Addr) (h : Heap), (K w.params).In h → h.Ns mainGlobals mg → mg d.name = some (.ref fa) →
      ∃ fd : FuncData, (∀ (s : Shared) (u : Value), BindsTo s fd ⟨[u], []⟩ [(x, u)]) ∧ ∀ base : Heap, (K w.params).In base → base.Ns mainGlobals mg → FnOk l.prog w (K w.params) mg base (CX w) k fa fd [x] (sp w))
    (hsp : ∀ (w : World) (H : Hp) (a : Addr) (ns : List Int), ns.length ≤ n → (∀ m ∈ ns, Builtin.Int.intBits m ≤ 1048576) → Only H → SqL (K w.params) H a (ns.map V.int) → sp w [.ref a] H (fun v _ => v = .bl true) fun _ _ _ => False)
    (hCX : ∀ (w : World) (H : Hp) (s : Shared) (e : Value) (s' : Shared), CX w [] H s (fun _ _ _ => False) e s' → False) :
    PySem.W.WalkO q loose XP YP l.row.toRowW d [] (fun f vs => PySem.call f vs) := by
  intro w s₀ s₁ mg mb G Y fa o pm cd doc dV kV ho hd hcd hD hmg hg args vals as hpre hlay hrd hwl hlo
  obtain rfl : dV = .none := Dflts.none hD hdf
  obtain rfl : kV = .none := Dflts.noKw hD
  obtain ⟨a, vs, ns, rfl, rfl, hobj, hints, hlen⟩ := Att.script_of hn hpre hwl
  have KX := hY w _ Y
  obtain ⟨fd, hb, hF⟩ := F w mg fa _ KX G.T.g hmg
  refine enter_call (codeAny_mono (law_call KX G.T.g G.T.b G.T.builtins G.T.nolimit hg hobj hints (Nat.le_trans hlen hn2) hr hF hb (fun H hO hS => hsp w H a ns hlen (bits_lay hlay) hO hS) fun H e s' => hCX w H s₁ e s') fun r s' hq => ?_)
  obtain ⟨rfl, h2, h3, h4⟩ := hq
  exact ⟨.inl ⟨.bool true, .bool true, [], rfl, fun _ => rfl, .bool true, Att.post_true l _, fun _ => ⟨List.Pairwise.nil, fun _ hm => (nomatch hm)⟩⟩, h2, h3, h4⟩
end L3
set_option Elab.async false
set_option linter.all false
set_option maxRecDepth 100000
set_option maxHeartbeats 4000000
namespace Vm
open PySem PySem.Spec PyProof.Rows L2 L3
def swapW (es cs : List Str) (i j : Nat) : Bool := if i + 1 < es.length then (if gt es i = gt es (i + 1) then false else decide ((cs.drop j).take 2 = [gt es (i + 1), gt es i])) else false
def skips (es : List Str) (i : Nat) : List Nat := if i = 0 then [] else ((List.range (es.length - i)).filter fun k => decide (gt es (i + k) = gt es (i - 1))).map (· + 1)
abbrev Way := Sk × Nat × Nat
def w1 (es cs : List Str) (i j : Nat) : List Way := if i < es.length ∧ j < cs.length then [((if gt es i = gt cs j then .keep else .turn (gt cs j)), i + 1, j + 1)] else []
def w2 (es : List Str) (i j : Nat) : List Way := if i < es.length then [(.lose, i + 1, j)] else []
def w3 (cs : List Str) (i j : Nat) : List Way := if j < cs.length then [(.add (gt cs j), i, j + 1)] else []
def w4 (cs : List Str) (i j : Nat) : List Way := if 0 < j ∧ j < cs.length ∧ gt cs j = gt cs (j - 1) then [(.twice, i, j + 1)] else []
def w5 (es cs : List Str) (i j : Nat) : List Way := if swapW es cs i j = true then [(.swap, i + 2, j + 2)] else []
def w6 (es : List Str) (i j : Nat) : List Way := (skips es i).map fun k => (.skip k, i + k, j)
def ways (es cs : List Str) (i j : Nat) : List Way := w1 es cs i j ++ w2 es i j ++ w3 cs i j ++ w4 cs i j ++ w5 es cs i j ++ w6 es i j
theorem skips_in {es : List Str} {i k : Nat} (h : k ∈ skips es i) : 1 ≤ k ∧ i + k ≤ es.length ∧ 1 ≤ i := by
  unfold skips at h
  split at h
  · cases h
  · obtain ⟨m, hm, rfl⟩ := List.mem_map.mp h
    have := List.mem_range.mp (List.mem_filter.mp hm).1
    omega
theorem ways_ok {es cs : List Str} {i j : Nat} (hc : ∀ z ∈ cs, Good z) (he : es.length ≤ 1000) : ∀ x ∈ ways es cs i j, okS x.1 := by
  intro x hx
  unfold ways at hx
  simp only [List.mem_append] at hx
  rcases hx with ((((h | h) | h) | h) | h) | h
  · unfold w1 at h
    split at h
    · rename_i hh
      rw [List.mem_singleton.mp h]
      show okS (if _ then _ else _)
      split
      · trivial
      · exact hc _ (gt_mem hh.2)
    · cases h
  · unfold w2 at h
    split at h
    · rw [List.mem_singleton.mp h]; trivial
    · cases h
  · unfold w3 at h
    split at h
    · rename_i hh
      rw [List.mem_singleton.mp h]; exact hc _ (gt_mem hh)
    · cases h
  · unfold w4 at h
    split at h
    · rw [List.mem_singleton.mp h]; trivial
    · cases h
  · unfold w5 at h
    split at h
    · rw [List.mem_singleton.mp h]; trivial
    · cases h
  · unfold w6 at h
    obtain ⟨k, hk, rfl⟩ := List.mem_map.mp h
    have := skips_in hk
    exact ⟨this.1, by omega⟩
def wayV (t : Addr) (x : Way) : List V := [.ref t, .int ((x.2.1 : Nat) : Int), .int ((x.2.2 : Nat) : Int)]
structure WaysAt (H : Hp) (as : List Addr) (ws : List Way) : Prop where
  len : as.length = ws.length
  item : ∀ (k : Nat) (a : Addr) (x : Way), as[k]? = some a → ws[k]? = some x → ∃ t, H a = some (.tup (wayV t x)) ∧ H t = some (.tup (stepV x.1))
theorem WaysAt.mono {H H' : Hp} {as : List Addr} {ws : List Way} (S : Same H H') (h : WaysAt H as ws) : WaysAt H' as ws :=
  ⟨h.len, fun k a x e1 e2 => by
    obtain ⟨t, h1, h2⟩ := h.item k a x e1 e2
    exact ⟨t, S _ _ h1, S _ _ h2⟩⟩
theorem WaysAt.nil {H : Hp} : WaysAt H [] [] := ⟨rfl, fun k a x e _ => by simp at e⟩
theorem WaysAt.set {H : Hp} {l : Addr} {ys : List V} {o : HO} {as : List Addr} {ws : List Way} (h : WaysAt H as ws) (hl : H l = some (.lst ys)) : WaysAt (upd H l o) as ws :=
  ⟨h.len, fun k a x e1 e2 => by
    obtain ⟨t, h1, h2⟩ := h.item k a x e1 e2
    have n1 : a ≠ l := fun z => by rw [z, hl] at h1; cases h1
    have n2 : t ≠ l := fun z => by rw [z, hl] at h2; cases h2
    exact ⟨t, by rw [upd_ne n1]; exact h1, by rw [upd_ne n2]; exact h2⟩⟩
theorem WaysAt.app {H : Hp} {as bs : List Addr} {ws vs : List Way} (h : WaysAt H as ws) (h2 : WaysAt H bs vs) : WaysAt H (as ++ bs) (ws ++ vs) := by
  refine ⟨by rw [List.length_append, List.length_append, h.len, h2.len], fun i t st e1 e2 => ?_⟩
  by_cases hi : i < as.length
  · rw [List.getElem?_append_left hi] at e1
    rw [List.getElem?_append_left (by rw [← h.len]; exact hi)] at e2
    exact h.item i t st e1 e2
  · rw [List.getElem?_append_right (by omega)] at e1
    rw [List.getElem?_append_right (by rw [← h.len]; omega), ← h.len] at e2
    exact h2.item _ t st e1 e2
theorem WaysAt.one {H : Hp} {a t : Addr} {x : Way} (h1 : H a = some (.tup (wayV t x))) (h2 : H t = some (.tup (stepV x.1))) : WaysAt H [a] [x] := by
  refine ⟨rfl, fun k a' x' e1 e2 => ?_⟩
  cases k with
  | zero => cases e1; cases e2; exact ⟨t, h1, h2⟩
  | succ k => simp at e1
theorem way_add {H H2 : Hp} {l t a : Addr} {as : List Addr} {ws : List Way} {x : Way} (S : Same H H2) (hl : H l = none) (h1 : H2 l = some (.lst (as.map V.ref))) (hW : WaysAt H2 as ws) (ht : H2 t = none) (ha : upd H2 t (.tup (stepV x.1)) a = none) :
    upd (upd H2 t (.tup (stepV x.1))) a (.tup (wayV t x)) l = some (.lst (as.map V.ref)) ∧
    upd (upd (upd H2 t (.tup (stepV x.1))) a (.tup (wayV t x))) l (.lst (as.map V.ref ++ [.ref a])) l = some (.lst ((as ++ [a]).map V.ref)) ∧
    Same H (upd (upd (upd H2 t (.tup (stepV x.1))) a (.tup (wayV t x))) l (.lst (as.map V.ref ++ [.ref a]))) ∧
    WaysAt (upd (upd (upd H2 t (.tup (stepV x.1))) a (.tup (wayV t x))) l (.lst (as.map V.ref ++ [.ref a]))) (as ++ [a]) (ws ++ [x]) := by
  have S1 := same_upd (o := .tup (stepV x.1)) ht
  have S2 := same_upd (o := .tup (wayV t x)) ha
  have k1 := S2 _ _ (S1 _ _ h1)
  refine ⟨k1, by rw [upd_same, List.map_append]; rfl, same_to ((S.trans S1).trans S2) hl, ?_⟩
  refine WaysAt.set ?_ k1
  exact ((hW.mono S1).mono S2).app (WaysAt.one upd_same (S2 _ _ upd_same))
theorem cutV_two (cs : List Str) (j : Nat) : cutV (cs.map V.str) (some ((j : Nat) : Int)) (some (((j : Nat) : Int) + 2)) = ((cs.drop j).take 2).map V.str := by
  have e : ((j : Nat) : Int) + 2 = ((j + 2 : Nat) : Int) := by omega
  unfold cutV
  rw [e, HT.sIx_nat, HT.sIx_nat, List.length_map, ← List.map_drop, ← List.map_take]
  congr 1
  by_cases h : j ≤ cs.length
  · rw [Nat.min_eq_left h]
    by_cases h2 : j + 2 ≤ cs.length
    · rw [Nat.min_eq_left h2, Nat.add_sub_cancel_left]
    · rw [Nat.min_eq_right (by omega), List.take_of_length_le (by rw [List.length_drop]; omega), List.take_of_length_le (by rw [List.length_drop]; omega)]
  · rw [Nat.min_eq_right (by omega), Nat.min_eq_right (by omega), List.drop_of_length_le (Nat.le_refl _), List.drop_of_length_le (by omega)]
    simp
theorem cutTup {K : PySem.W.Frag} {H : Hp} {a : Addr} {xs : List V} {lo hi : Option Int} {Q : VK} (h : SqT K H a xs) (q : ∀ p H', Same H H' → SqT K H' p (cutV xs lo hi) → Q (.ref p) H') : rSlTA K (.ref a) lo hi H Q := by
  refine ⟨a, xs, rfl, h, fun hw => q a H (Same.refl _) ?_, fun _ p hp => q p _ (same_upd hp) (SqT.of upd_same)⟩
  have e : cutV xs lo hi = xs := by
    unfold cutV
    rw [hw.1, hw.2, List.drop_zero, Nat.sub_zero, List.take_length]
  rw [e]; exact h
theorem cutTake {α : Type} (g : α → V) (xs : List α) (n : Nat) : cutV (xs.map g) none (some ((n : Nat) : Int)) = (xs.take n).map g := by
  unfold cutV
  rw [HT.sIx_none, HT.sIx_nat, List.drop_zero, Nat.sub_zero, List.length_map, ← List.map_take]
  congr 1
  by_cases h : n ≤ xs.length
  · rw [Nat.min_eq_left h]
  · rw [Nat.min_eq_right (by omega), List.take_length, List.take_of_length_le (by omega)]
end Vm
set_option Elab.async false
set_option linter.all false
namespace Vm
open PySem PySem.Spec PyProof.Rows L2 L3
abbrev Tb := Nat → Nat → Option Int
def Tb.put (T : Tb) (d w : Nat) (v : Int) : Tb := fun a b => if a = d ∧ b = w then some v else T a b
theorem Tb.put_same (T : Tb) (d w : Nat) (v : Int) : T.put d w v d w = some v := by simp [Tb.put]
theorem Tb.put_ne (T : Tb) {d w a b : Nat} (v : Int) (h : ¬ (a = d ∧ b = w)) : T.put d w v a b = T a b := by simp [Tb.put, h]
def Tb.rel (pr : Nat → Sk → Int) (i j : Nat) (T : Tb) (x : Way) : Tb :=
  match T i j with
  | none => T
  | some t => match T x.2.1 x.2.2 with
    | none => T.put x.2.1 x.2.2 (t + pr i x.1)
    | some u => if t + pr i x.1 < u then T.put x.2.1 x.2.2 (t + pr i x.1) else T
structure TabI (pr : Nat → Sk → Int) (Dn : Nat → Nat → Way → Prop) (T : Tb) : Prop where
  z : T 0 0 = some 0
  le : ∀ a b x, Dn a b x → ∃ t u, T a b = some t ∧ T x.2.1 x.2.2 = some u ∧ u ≤ t + pr a x.1
  eq : ∀ a b u, T a b = some u → ¬ (a = 0 ∧ b = 0) → ∃ a' b' t x, Dn a' b' x ∧ x.2.1 = a ∧ x.2.2 = b ∧ T a' b' = some t ∧ u = t + pr a' x.1
theorem TabI.congr {pr : Nat → Sk → Int} {D D' : Nat → Nat → Way → Prop} {T : Tb} (h : TabI pr D T) (e : ∀ a b x, D a b x ↔ D' a b x) : TabI pr D' T :=
  ⟨h.z, fun a b x k => h.le a b x ((e a b x).mpr k), fun a b u hu hn => by
    obtain ⟨a', b', t, x, k, r⟩ := h.eq a b u hu hn
    exact ⟨a', b', t, x, (e a' b' x).mp k, r⟩⟩
theorem TabI.more {pr : Nat → Sk → Int} {Dn : Nat → Nat → Way → Prop} {T : Tb} {i j : Nat} {t : Int} {x : Way} (h : TabI pr Dn T) (ht : T i j = some t) (h0 : ¬ (x.2.1 = 0 ∧ x.2.2 = 0)) (hs : ¬ (i = x.2.1 ∧ j = x.2.2))
    (hd : ∀ a b y, Dn a b y → ¬ (a = x.2.1 ∧ b = x.2.2)) : TabI pr (fun a b y => Dn a b y ∨ (a = i ∧ b = j ∧ y = x)) (T.rel pr i j x) := by
  have key : ∀ v : Int, v = t + pr i x.1 → (∀ u, T x.2.1 x.2.2 = some u → v ≤ u) → TabI pr (fun a b y => Dn a b y ∨ (a = i ∧ b = j ∧ y = x)) (T.put x.2.1 x.2.2 v) := by
    intro v hv hle
    refine ⟨?_, ?_, ?_⟩
    · rw [Tb.put_ne _ _ (fun z => h0 ⟨z.1.symm, z.2.symm⟩)]; exact h.z
    · rintro a b y (k | ⟨rfl, rfl, rfl⟩)
      · obtain ⟨t', u', h1, h2, h3⟩ := h.le a b y k
        refine ⟨t', ?_⟩
        rw [Tb.put_ne _ _ (hd a b y k)]
        by_cases e : y.2.1 = x.2.1 ∧ y.2.2 = x.2.2
        · refine ⟨v, h1, ?_, ?_⟩
          · rw [e.1, e.2, Tb.put_same]
          · have := hle u' (by rw [← e.1, ← e.2]; exact h2)
            omega
        · exact ⟨u', h1, by rw [Tb.put_ne _ _ e]; exact h2, h3⟩
      · exact ⟨t, v, by rw [Tb.put_ne _ _ hs]; exact ht, Tb.put_same .., by omega⟩
    · intro a b u hu hn
      by_cases e : a = x.2.1 ∧ b = x.2.2
      · rw [e.1, e.2, Tb.put_same] at hu
        refine ⟨i, j, t, x, .inr ⟨rfl, rfl, rfl⟩, e.1.symm, e.2.symm, by rw [Tb.put_ne _ _ hs]; exact ht, ?_⟩
        injection hu with hu; omega
      · rw [Tb.put_ne _ _ e] at hu
        obtain ⟨a', b', t', y, k, e1, e2, e3, e4⟩ := h.eq a b u hu hn
        exact ⟨a', b', t', y, .inl k, e1, e2, by rw [Tb.put_ne _ _ (hd a' b' y k)]; exact e3, e4⟩
  unfold Tb.rel
  simp only [ht]
  cases hu : T x.2.1 x.2.2 with
  | none => exact key _ rfl (fun u e => by rw [hu] at e; cases e)
  | some u =>
    simp only []
    by_cases hlt : t + pr i x.1 < u
    · rw [if_pos hlt]
      exact key _ rfl (fun u' e => by rw [hu] at e; injection e with e; omega)
    · rw [if_neg hlt]
      refine ⟨h.z, ?_, ?_⟩
      · rintro a b y (k | ⟨rfl, rfl, rfl⟩)
        · exact h.le a b y k
        · exact ⟨t, u, ht, hu, by omega⟩
      · intro a b u' hu' hn
        obtain ⟨a', b', t', y, k, r⟩ := h.eq a b u' hu' hn
        exact ⟨a', b', t', y, .inl k, r⟩
theorem Tb.rel_ne (pr : Nat → Sk → Int) (T : Tb) {i j a b : Nat} {x : Way} (h : ¬ (a = x.2.1 ∧ b = x.2.2)) : T.rel pr i j x a b = T a b := by
  unfold Tb.rel
  cases T i j with
  | none => rfl
  | some t =>
    cases T x.2.1 x.2.2 with
    | none => exact Tb.put_ne _ _ h
    | some u =>
      show (if t + pr i x.1 < u then _ else T : Tb) a b = T a b
      by_cases e : t + pr i x.1 < u
      · rw [if_pos e]; exact Tb.put_ne _ _ h
      · rw [if_neg e]
def Fwd (m n : Nat) (E : Nat → Nat → List Way) : Prop := ∀ i j, i ≤ m → j ≤ n → ∀ x ∈ E i j, x.2.1 ≤ m ∧ x.2.2 ≤ n ∧ i ≤ x.2.1 ∧ j ≤ x.2.2 ∧ (i < x.2.1 ∨ j < x.2.2)
def Bef (m n i j a b : Nat) : Prop := a ≤ m ∧ b ≤ n ∧ (a < i ∨ (a = i ∧ b < j))
def Gone (m n : Nat) (E : Nat → Nat → List Way) (i j : Nat) (ws : List Way) : Nat → Nat → Way → Prop := fun a b x => (Bef m n i j a b ∧ x ∈ E a b) ∨ (a = i ∧ b = j ∧ x ∈ ws)
theorem Gone.zero {m n : Nat} {E : Nat → Nat → List Way} {a b : Nat} {x : Way} : ¬ Gone m n E 0 0 [] a b x := by
  rintro (⟨⟨_, _, q⟩, _⟩ | ⟨_, _, z⟩)
  · omega
  · simp at z
theorem Gone.next {m n : Nat} {E : Nat → Nat → List Way} {i j : Nat} (hi : i ≤ m) (hj : j ≤ n) (a b : Nat) (x : Way) : Gone m n E i j (E i j) a b x ↔ Gone m n E i (j + 1) [] a b x := by
  unfold Gone Bef
  constructor
  · rintro (⟨⟨h1, h2, h3⟩, h4⟩ | ⟨rfl, rfl, h⟩)
    · exact .inl ⟨⟨h1, h2, by omega⟩, h4⟩
    · exact .inl ⟨⟨hi, hj, by omega⟩, h⟩
  · rintro (⟨⟨h1, h2, h3⟩, h4⟩ | ⟨_, _, h⟩)
    · by_cases e : a = i ∧ b = j
      · exact .inr ⟨e.1, e.2, by rw [← e.1, ← e.2]; exact h4⟩
      · exact .inl ⟨⟨h1, h2, by omega⟩, h4⟩
    · simp at h
theorem Gone.row {m n : Nat} {E : Nat → Nat → List Way} {i : Nat} (a b : Nat) (x : Way) : Gone m n E i (n + 1) [] a b x ↔ Gone m n E (i + 1) 0 [] a b x := by
  unfold Gone Bef
  constructor
  · rintro (⟨⟨h1, h2, h3⟩, h4⟩ | ⟨_, _, h⟩)
    · exact .inl ⟨⟨h1, h2, by omega⟩, h4⟩
    · simp at h
  · rintro (⟨⟨h1, h2, h3⟩, h4⟩ | ⟨_, _, h⟩)
    · exact .inl ⟨⟨h1, h2, by omega⟩, h4⟩
    · simp at h
def Come (m n : Nat) (E : Nat → Nat → List Way) : Prop := ∀ i j, i ≤ m → j ≤ n → ¬ (i = 0 ∧ j = 0) → ∃ a b x, Bef m n i j a b ∧ x ∈ E a b ∧ x.2.1 = i ∧ x.2.2 = j
theorem TabI.here {pr : Nat → Sk → Int} {m n i j : Nat} {E : Nat → Nat → List Way} {T : Tb} (hC : Come m n E) (h : TabI pr (Gone m n E i j []) T) (hi : i ≤ m) (hj : j ≤ n) : ∃ t, T i j = some t := by
  by_cases e : i = 0 ∧ j = 0
  · exact ⟨0, by rw [e.1, e.2]; exact h.z⟩
  · obtain ⟨a, b, x, h1, h2, e1, e2⟩ := hC i j hi hj e
    obtain ⟨_, u, _, hu, _⟩ := h.le a b x (.inl ⟨h1, h2⟩)
    exact ⟨u, by rw [← e1, ← e2]; exact hu⟩
structure Least (pr : Nat → Sk → Int) (m n : Nat) (E : Nat → Nat → List Way) (F : Nat → Nat → Int) : Prop where
  z : F 0 0 = 0
  le : ∀ i j, i ≤ m → j ≤ n → ∀ x ∈ E i j, F x.2.1 x.2.2 ≤ F i j + pr i x.1
  eq : ∀ i j, i ≤ m → j ≤ n → ¬ (i = 0 ∧ j = 0) → ∃ a b x, Bef m n i j a b ∧ x ∈ E a b ∧ x.2.1 = i ∧ x.2.2 = j ∧ F i j = F a b + pr a x.1
theorem TabI.least {pr : Nat → Sk → Int} {m n : Nat} {E : Nat → Nat → List Way} {T : Tb} (hE : Fwd m n E) (hC : Come m n E) (h : TabI pr (Gone m n E (m + 1) 0 []) T) : (∀ i j, i ≤ m → j ≤ n → ∃ t, T i j = some t) ∧ Least pr m n E (fun i j => (T i j).getD 0) := by
  have here : ∀ i j, i ≤ m → j ≤ n → ∃ t, T i j = some t := by
    intro i j hi hj
    by_cases e : i = 0 ∧ j = 0
    · exact ⟨0, by rw [e.1, e.2]; exact h.z⟩
    · obtain ⟨a, b, x, h1, h2, e1, e2⟩ := hC i j hi hj e
      obtain ⟨_, u, _, hu, _⟩ := h.le a b x (.inl ⟨⟨h1.1, h1.2.1, by have := h1.1; omega⟩, h2⟩)
      exact ⟨u, by rw [← e1, ← e2]; exact hu⟩
  refine ⟨here, ?_, ?_, ?_⟩
  · show (T 0 0).getD 0 = 0
    rw [h.z]; rfl
  · intro i j hi hj x hx
    obtain ⟨t, u, h1, h2, h3⟩ := h.le i j x (.inl ⟨⟨hi, hj, by omega⟩, hx⟩)
    show (T x.2.1 x.2.2).getD 0 ≤ (T i j).getD 0 + _
    rw [h1, h2]; exact h3
  · intro i j hi hj hn
    obtain ⟨u, hu⟩ := here i j hi hj
    obtain ⟨a, b, t, x, hg, e1, e2, e3, e4⟩ := h.eq i j u hu hn
    obtain ⟨⟨b1, b2, _⟩, hx⟩ | ⟨_, _, z⟩ := hg
    · have := hE a b b1 b2 x hx
      refine ⟨a, b, x, ⟨b1, b2, by omega⟩, hx, e1, e2, ?_⟩
      show (T i j).getD 0 = (T a b).getD 0 + _
      rw [hu, e3]; exact e4
    · simp at z
structure Rest (pr : Nat → Sk → Int) (m n : Nat) (E : Nat → Nat → List Way) (R : Nat → Nat → Int) : Prop where
  z : R m n = 0
  le : ∀ i j, i ≤ m → j ≤ n → ∀ x ∈ E i j, R i j ≤ pr i x.1 + R x.2.1 x.2.2
  eq : ∀ i j, i ≤ m → j ≤ n → ¬ (i = m ∧ j = n) → ∃ x ∈ E i j, R i j = pr i x.1 + R x.2.1 x.2.2
theorem rest_below {pr : Nat → Sk → Int} {m n : Nat} {E : Nat → Nat → List Way} {F R : Nat → Nat → Int} (hF : Least pr m n E F) (hR : Rest pr m n E R) : ∀ (k i j : Nat), i * (n + 1) + j ≤ k → i ≤ m → j ≤ n → R 0 0 ≤ F i j + R i j
  | k, i, j, hk, hi, hj => by
    by_cases e : i = 0 ∧ j = 0
    · rw [e.1, e.2, hF.z]; omega
    · obtain ⟨a, b, x, ⟨b1, b2, b3⟩, hx, e1, e2, e3⟩ := hF.eq i j hi hj e
      have hlt : a * (n + 1) + b < i * (n + 1) + j := by
        rcases b3 with h | ⟨rfl, h⟩
        · have : (a + 1) * (n + 1) ≤ i * (n + 1) := Nat.mul_le_mul_right _ h
          rw [Nat.add_mul] at this
          omega
        · omega
      match k, hk with
      | 0, hk => omega
      | k + 1, hk =>
        have ih := rest_below hF hR k a b (by omega) b1 b2
        have h2 := hR.le a b b1 b2 x hx
        rw [e1, e2] at h2
        omega
theorem rest_above {pr : Nat → Sk → Int} {m n : Nat} {E : Nat → Nat → List Way} {F R : Nat → Nat → Int} (hE : Fwd m n E) (hF : Least pr m n E F) (hR : Rest pr m n E R) : ∀ (k i j : Nat), (m - i) + (n - j) ≤ k → i ≤ m → j ≤ n → F m n ≤ F i j + R i j
  | k, i, j, hk, hi, hj => by
    by_cases e : i = m ∧ j = n
    · rw [e.1, e.2, hR.z]; omega
    · obtain ⟨x, hx, e1⟩ := hR.eq i j hi hj e
      have hw := hE i j hi hj x hx
      have h2 := hF.le i j hi hj x hx
      match k, hk with
      | 0, hk => omega
      | k + 1, hk =>
        have ih := rest_above hE hF hR k x.2.1 x.2.2 (by omega) hw.1 hw.2.1
        omega
theorem rest_least {pr : Nat → Sk → Int} {m n : Nat} {E : Nat → Nat → List Way} {F R : Nat → Nat → Int} (hE : Fwd m n E) (hF : Least pr m n E F) (hR : Rest pr m n E R) : F m n = R 0 0 ∧ ∀ i j, i ≤ m → j ≤ n → R 0 0 ≤ F i j + R i j := by
  have h1 := rest_above hE hF hR _ 0 0 (Nat.le_refl _) (Nat.zero_le _) (Nat.zero_le _)
  have h2 := rest_below hF hR _ m n (Nat.le_refl _) (Nat.le_refl _) (Nat.le_refl _)
  rw [hF.z] at h1
  rw [hR.z] at h2
  exact ⟨by omega, fun i j hi hj => rest_below hF hR _ i j (Nat.le_refl _) hi hj⟩
theorem ways_fwd (es cs : List Str) : Fwd es.length cs.length (ways es cs) := by
  intro i j hi hj x hx
  unfold ways at hx
  simp only [List.mem_append] at hx
  rcases hx with ((((h | h) | h) | h) | h) | h
  · unfold w1 at h
    split at h
    · rw [List.mem_singleton] at h; subst h; refine ⟨?_, ?_, ?_, ?_, ?_⟩ <;> simp only [] <;> omega
    · simp at h
  · unfold w2 at h
    split at h
    · rw [List.mem_singleton] at h; subst h; refine ⟨?_, ?_, ?_, ?_, ?_⟩ <;> simp only [] <;> omega
    · simp at h
  · unfold w3 at h
    split at h
    · rw [List.mem_singleton] at h; subst h; refine ⟨?_, ?_, ?_, ?_, ?_⟩ <;> simp only [] <;> omega
    · simp at h
  · unfold w4 at h
    split at h
    · rw [List.mem_singleton] at h; subst h; refine ⟨?_, ?_, ?_, ?_, ?_⟩ <;> simp only [] <;> omega
    · simp at h
  · unfold w5 at h
    split at h
    · rename_i hs
      rw [List.mem_singleton] at h; subst h
      unfold swapW at hs
      split at hs
      · split at hs
        · cases hs
        · have hs := of_decide_eq_true hs
          have hl := congrArg List.length hs
          simp only [List.length_take, List.length_drop, List.length_cons, List.length_nil] at hl
          refine ⟨?_, ?_, ?_, ?_, ?_⟩ <;> simp only [] <;> omega
      · cases hs
    · simp at h
  · unfold w6 at h
    obtain ⟨k, hk, rfl⟩ := List.mem_map.mp h
    have := skips_in hk
    refine ⟨?_, ?_, ?_, ?_, ?_⟩ <;> simp only [] <;> omega
theorem ways_come (es cs : List Str) : Come es.length cs.length (ways es cs) := by
  intro i j hi hj hn
  by_cases h0 : j = 0
  · obtain ⟨i', rfl⟩ : ∃ i', i = i' + 1 := ⟨i - 1, by omega⟩
    refine ⟨i', j, (.lose, i' + 1, j), ⟨by omega, hj, by omega⟩, ?_, rfl, rfl⟩
    unfold ways
    simp only [List.mem_append]
    refine .inl (.inl (.inl (.inl (.inr ?_))))
    unfold w2
    rw [if_pos (by omega)]
    exact List.mem_singleton.mpr rfl
  · obtain ⟨j', rfl⟩ : ∃ j', j = j' + 1 := ⟨j - 1, by omega⟩
    refine ⟨i, j', (.add (gt cs j'), i, j' + 1), ⟨hi, by omega, by omega⟩, ?_, rfl, rfl⟩
    unfold ways
    simp only [List.mem_append]
    refine .inl (.inl (.inl (.inr ?_)))
    unfold w3
    rw [if_pos (by omega)]
    exact List.mem_singleton.mpr rfl
theorem ways_some (es cs : List Str) {i j : Nat} (hi : i ≤ es.length) (hj : j ≤ cs.length) (hn : ¬ (i = es.length ∧ j = cs.length)) : ways es cs i j ≠ [] := by
  intro z
  by_cases h : i < es.length
  · have : (Sk.lose, i + 1, j) ∈ ways es cs i j := by
      unfold ways
      simp only [List.mem_append]
      refine .inl (.inl (.inl (.inl (.inr ?_))))
      unfold w2
      rw [if_pos h]
      exact List.mem_singleton.mpr rfl
    rw [z] at this; simp at this
  · have : (Sk.add (gt cs j), i, j + 1) ∈ ways es cs i j := by
      unfold ways
      simp only [List.mem_append]
      refine .inl (.inl (.inl (.inr ?_)))
      unfold w3
      rw [if_pos (by omega)]
      exact List.mem_singleton.mpr rfl
    rw [z] at this; simp at this
theorem ways_none (es cs : List Str) : ways es cs es.length cs.length = [] := by
  cases h : ways es cs es.length cs.length with
  | nil => rfl
  | cons x r =>
    have := ways_fwd es cs _ _ (Nat.le_refl _) (Nat.le_refl _) x (by rw [h]; simp)
    omega
theorem TabI.step {pr : Nat → Sk → Int} {m n i j : Nat} {E : Nat → Nat → List Way} (hE : Fwd m n E) (hi : i ≤ m) (hj : j ≤ n) {done : List Way} {T : Tb} {t : Int} {x : Way} (hx : x ∈ E i j) (ht : T i j = some t) (h : TabI pr (Gone m n E i j done) T) :
    TabI pr (Gone m n E i j (done ++ [x])) (T.rel pr i j x) ∧ T.rel pr i j x i j = some t := by
  have hx' := hE i j hi hj x hx
  refine ⟨?_, by rw [Tb.rel_ne pr T (by omega)]; exact ht⟩
  refine (h.more (i := i) (j := j) ht (by omega) (by omega) ?_).congr ?_
  · rintro a b y (⟨⟨_, _, q⟩, _⟩ | ⟨rfl, rfl, _⟩) <;> omega
  · intro a b y
    unfold Gone
    simp only [List.mem_append, List.mem_singleton]
    constructor
    · rintro ((k | ⟨e1, e2, e3⟩) | ⟨e1, e2, e3⟩)
      · exact .inl k
      · exact .inr ⟨e1, e2, .inl e3⟩
      · exact .inr ⟨e1, e2, .inr e3⟩
    · rintro (k | ⟨e1, e2, e3 | e3⟩)
      · exact .inl (.inl k)
      · exact .inl (.inr ⟨e1, e2, e3⟩)
      · exact .inr ⟨e1, e2, e3⟩
theorem TabI.start {pr : Nat → Sk → Int} {m n : Nat} {E : Nat → Nat → List Way} : TabI pr (Gone m n E 0 0 []) (Tb.put (fun _ _ => none) 0 0 0) := by
  refine ⟨Tb.put_same .., fun a b x k => absurd k Gone.zero, fun a b u hu hn => ?_⟩
  rw [Tb.put_ne _ _ hn] at hu
  cases hu
theorem ways_turn {es cs : List Str} {i j : Nat} {x : Way} (h : x ∈ ways es cs i j) {z : Str} (e : x.1 = .turn z) : i < es.length := by
  unfold ways at h
  simp only [List.mem_append] at h
  rcases h with ((((h | h) | h) | h) | h) | h
  · unfold w1 at h
    split at h
    · omega
    · simp at h
  · unfold w2 at h
    split at h
    · omega
    · simp at h
  · unfold w3 at h
    split at h
    · rw [List.mem_singleton] at h; subst h; cases e
    · simp at h
  · unfold w4 at h
    split at h
    · rw [List.mem_singleton] at h; subst h; cases e
    · simp at h
  · unfold w5 at h
    split at h
    · rw [List.mem_singleton] at h; subst h; cases e
    · simp at h
  · unfold w6 at h
    obtain ⟨k, hk, rfl⟩ := List.mem_map.mp h
    cases e
def RestAt (pr : Nat → Sk → Int) (E : Nat → Nat → List Way) (T : Tb) (a b : Nat) : Prop := ∃ v, T a b = some v ∧ (E a b = [] → v = 0) ∧ (∀ x ∈ E a b, ∃ u, T x.2.1 x.2.2 = some u ∧ v ≤ pr a x.1 + u) ∧ (E a b ≠ [] → ∃ x ∈ E a b, ∃ u, T x.2.1 x.2.2 = some u ∧ v = pr a x.1 + u)
def RestI (pr : Nat → Sk → Int) (m n : Nat) (E : Nat → Nat → List Way) (i j : Nat) (T : Tb) : Prop := ∀ a b, a ≤ m → b ≤ n → (i < a ∨ (a = i ∧ j < b)) → RestAt pr E T a b
def leastOf : List Int → Int
  | [] => 0
  | x :: r => r.foldl min x
theorem foldl_min_le : ∀ (r : List Int) (x : Int), r.foldl min x ≤ x ∧ ∀ y ∈ r, r.foldl min x ≤ y
  | [], x => ⟨Int.le_refl _, fun _ z => nomatch z⟩
  | y :: r, x => by
    have ih := foldl_min_le r (min x y)
    rw [List.foldl_cons]
    refine ⟨by have := ih.1; omega, fun z hz => ?_⟩
    rcases List.mem_cons.mp hz with rfl | hz
    · have := ih.1; omega
    · exact ih.2 z hz
theorem foldl_min_mem : ∀ (r : List Int) (x : Int), r.foldl min x = x ∨ r.foldl min x ∈ r
  | [], x => .inl rfl
  | y :: r, x => by
    rw [List.foldl_cons]
    rcases foldl_min_mem r (min x y) with h | h
    · rcases Int.le_total x y with c | c
      · rw [Int.min_eq_left c] at h ⊢; exact .inl h
      · rw [Int.min_eq_right c] at h ⊢; exact .inr (by rw [h]; exact List.mem_cons_self)
    · exact .inr (List.mem_cons_of_mem _ h)
theorem leastOf_le {l : List Int} {y : Int} (h : y ∈ l) : leastOf l ≤ y := by
  cases l with
  | nil => cases h
  | cons x r =>
    show r.foldl min x ≤ y
    rcases List.mem_cons.mp h with rfl | h
    · exact (foldl_min_le r _).1
    · exact (foldl_min_le r x).2 y h
theorem leastOf_mem {l : List Int} (h : l ≠ []) : leastOf l ∈ l := by
  cases l with
  | nil => exact absurd rfl h
  | cons x r =>
    show r.foldl min x ∈ x :: r
    rcases foldl_min_mem r x with e | e
    · rw [e]; exact List.mem_cons_self
    · exact List.mem_cons_of_mem _ e
theorem RestI.ends {pr : Nat → Sk → Int} {m n i j : Nat} {E : Nat → Nat → List Way} {T : Tb} (hE : Fwd m n E) (h : RestI pr m n E i j T) (hi : i ≤ m) (hj : j ≤ n) {x : Way} (hx : x ∈ E i j) : ∃ u, T x.2.1 x.2.2 = some u := by
  have w := hE i j hi hj x hx
  obtain ⟨v, hv, _⟩ := h x.2.1 x.2.2 w.1 w.2.1 (by omega)
  exact ⟨v, hv⟩
theorem RestI.put {pr : Nat → Sk → Int} {m n i j : Nat} {E : Nat → Nat → List Way} {T : Tb} (hE : Fwd m n E) (h : RestI pr m n E i j T) (hi : i ≤ m) (hj : j ≤ n) :
    ∀ a b, a ≤ m → b ≤ n → (i < a ∨ (a = i ∧ j ≤ b)) → RestAt pr E (T.put i j (leastOf ((E i j).map fun x => pr i x.1 + (T x.2.1 x.2.2).getD 0))) a b := by
  intro a b ha hb hab
  have off : ∀ x ∈ E a b, ¬ (x.2.1 = i ∧ x.2.2 = j) := fun x hx => by
    have := hE a b ha hb x hx
    omega
  by_cases e : a = i ∧ b = j
  · obtain ⟨rfl, rfl⟩ := e
    refine ⟨_, Tb.put_same .., fun z => ?_, fun x hx => ?_, fun z => ?_⟩
    · rw [z]; rfl
    · obtain ⟨u, hu⟩ := h.ends hE ha hb hx
      refine ⟨u, by rw [Tb.put_ne _ _ (off x hx)]; exact hu, ?_⟩
      refine leastOf_le (List.mem_map.mpr ⟨x, hx, ?_⟩)
      rw [hu]; rfl
    · obtain ⟨x, hx, ex⟩ := List.mem_map.mp (leastOf_mem (l := (E a b).map fun x => pr a x.1 + (T x.2.1 x.2.2).getD 0) (fun c => z (List.map_eq_nil_iff.mp c)))
      obtain ⟨u, hu⟩ := h.ends hE ha hb hx
      refine ⟨x, hx, u, by rw [Tb.put_ne _ _ (off x hx)]; exact hu, ?_⟩
      rw [← ex, hu]; rfl
  · obtain ⟨v, h1, h2, h3, h4⟩ := h a b ha hb (by omega)
    refine ⟨v, by rw [Tb.put_ne _ _ e]; exact h1, h2, fun x hx => ?_, fun z => ?_⟩
    · obtain ⟨u, hu, hl⟩ := h3 x hx
      exact ⟨u, by rw [Tb.put_ne _ _ (off x hx)]; exact hu, hl⟩
    · obtain ⟨x, hx, u, hu, he⟩ := h4 z
      exact ⟨x, hx, u, by rw [Tb.put_ne _ _ (off x hx)]; exact hu, he⟩
theorem rest_of {pr : Nat → Sk → Int} {m n : Nat} {E : Nat → Nat → List Way} {T : Tb} (h : ∀ a b, a ≤ m → b ≤ n → RestAt pr E T a b) (hN : E m n = []) (hS : ∀ i j, i ≤ m → j ≤ n → ¬ (i = m ∧ j = n) → E i j ≠ []) :
    (∀ i j, i ≤ m → j ≤ n → ∃ v, T i j = some v) ∧ Rest pr m n E (fun i j => (T i j).getD 0) := by
  refine ⟨fun i j hi hj => by obtain ⟨v, hv, _⟩ := h i j hi hj; exact ⟨v, hv⟩, ?_, ?_, ?_⟩
  · obtain ⟨v, h1, h2, _⟩ := h m n (Nat.le_refl _) (Nat.le_refl _)
    show (T m n).getD 0 = 0
    rw [h1, h2 hN]; rfl
  · intro i j hi hj x hx
    obtain ⟨v, h1, _, h3, _⟩ := h i j hi hj
    obtain ⟨u, hu, hl⟩ := h3 x hx
    show (T i j).getD 0 ≤ _ + (T x.2.1 x.2.2).getD 0
    rw [h1, hu]; exact hl
  · intro i j hi hj hn
    obtain ⟨v, h1, _, _, h4⟩ := h i j hi hj
    obtain ⟨x, hx, u, hu, he⟩ := h4 (hS i j hi hj hn)
    refine ⟨x, hx, ?_⟩
    show (T i j).getD 0 = _ + (T x.2.1 x.2.2).getD 0
    rw [h1, hu]; exact he
end Vm
set_option Elab.async false
set_option linter.all false
set_option maxRecDepth 100000
set_option maxHeartbeats 4000000
namespace L3
open PySem PySem.Spec PyProof.Rows L2
theorem rep_fold (u : Value) : ∀ (k : Nat) (acc : Array Value), List.foldl (fun x1 x2 => x1 ++ x2) acc (List.replicate k #[u]) = acc ++ (List.replicate k u).toArray
  | 0, acc => by simp
  | k + 1, acc => by
    rw [List.replicate_succ, List.foldl_cons, rep_fold u k, List.replicate_succ]
    apply Array.ext'
    simp
section
variable {pg : Program} {wo : World} {Ar : Around} {Ex : Value → Shared → Prop} {st : Shared}
theorem mulL_new {a : Addr} {its : Array Value} {c : Nat} {n : Int} {tk : Tok} {R : Value → Shared → Prop} (ha : st.heap.get? a = some { cls := .type "list", data := .seq its c })
    (h1 : 0 ≤ n) (h2 : n < 2 ^ 40) (h3 : its.size * n.toNat ≤ 2 ^ 24)
    (hR : R (.ref st.heap.objs.size) { st with heap := st.heap.push { cls := .type "list", data := .seq (List.foldl (· ++ ·) #[] (List.replicate (if its.isEmpty = true then 0 else n.toNat) its)) } }) :
    wpAny (model pg wo) Ar (binaryOp .Mult (.ref a) (.int n tk)) R Ex st := by
  have fits : ¬ (!Builtin.List.listFitsIndex n) = true := by
    unfold Builtin.List.listFitsIndex
    simp
    omega
  have short : ¬ Builtin.List.listTooLong (its.size * n.toNat) = true := by
    unfold Builtin.List.listTooLong sizeLine
    simp
    omega
  have isL : st.TypeIs (.ref a) "list" := ⟨_, ha, rfl⟩
  refine wpAny_binaryOp_repeat_ref (by decide : (Value.type "list" == Value.type "int") = false) isL (fun s' => typeIs_int s' n tk) noFill_list_mul F.fills_int_mul F.slot_int_rmul repeat_list F.slot_int_index.lookup ?_
  refine call_meets F.slot_int_rmul (typeIs_int st n tk) F.entry_int_rmul (F.args_int_rmul_2 _ _) (int___rmul___int_list n tk a its c) ?_
  refine ⟨ha, rfl, isL, ?_⟩
  exact call_meets F.slot_list_mul isL F.entry_list_mul (F.args_list_mul_2 _ _) (AutoListH.list___mul___list_int_3 a its c n tk fits (by omega) short) ⟨ha, hR⟩
end
section
variable {X : Cx}
theorem vals_rep {v : V} {u : Value} (r : RelV v u) : ∀ k : Nat, Vals (List.replicate k v) (List.replicate k u)
  | 0 => .nil
  | k + 1 => .cons r (vals_rep r k)
theorem op_mulL : OpR X (binaryOp .Mult) (fun x y H Q => ∃ (a : Addr) (v : V) (n : Nat), x = .ref a ∧ y = .int ((n : Nat) : Int) ∧ H a = some (.lst [v]) ∧ n ≤ 100000 ∧ ∀ p, H p = none → Q (.ref p) (upd H p (.lst (List.replicate n v)))) := by
  intro pins s σ H x y w u Q I rx ry h
  obtain ⟨a, v, n, rfl, rfl, hH, hn, q⟩ := h
  obtain rfl : w = Value.ref a := rx
  obtain ⟨t, rfl⟩ := ry
  obtain ⟨its, k, r, e, z⟩ := I.lst hH
  obtain ⟨u, rfl, ru⟩ := vals1 r
  have hf : H s.heap.objs.size = none := I.hok.fresh (Nat.le_refl _)
  have hx : ((n : Nat) : Int).toNat = n := Int.toNat_natCast n
  have hE : (if (#[u] : Array Value).isEmpty = true then 0 else ((n : Nat) : Int).toNat) = n := by rw [if_neg (by simp), hx]
  refine mulL_new (its := #[u]) e (by omega) (by omega) (by rw [hx]; show 1 * n ≤ 2 ^ 24; omega) ?_
  rw [hE, rep_fold]
  refine ⟨.ref s.heap.objs.size, upd H s.heap.objs.size (.lst (List.replicate n v)), I.laid (t' := s.toks) (fun b u e => Heap.get?_push_of_some _ e) (Nat.le_refl _) ?_, rfl, q _ hf⟩
  refine ⟨by rw [List.length_replicate]; show n ≤ sizeLine; unfold sizeLine; omega, List.replicate n u, 0, vals_rep ru n, ?_⟩
  have : (#[] ++ (List.replicate n u).toArray : Array Value) = (List.replicate n u).toArray := by simp
  rw [this]
  exact Heap.get?_push_size _ rfl
end
end L3
namespace Vm
open PySem PySem.Spec PyProof.Rows L2 L3
def ov : Option Int → V
  | none => .non
  | some v => .int v
def rowV (n : Nat) (f : Nat → Option Int) : List V := (List.range (n + 1)).map fun j => ov (f j)
theorem rowV_len (n : Nat) (f : Nat → Option Int) : (rowV n f).length = n + 1 := by unfold rowV; rw [List.length_map, List.length_range]
theorem rowV_at {n j : Nat} (f : Nat → Option Int) (h : j ≤ n) : (rowV n f)[j]? = some (ov (f j)) := by
  unfold rowV
  rw [List.getElem?_map, List.getElem?_range (by omega)]
  rfl
theorem rowV_set {n j : Nat} (f : Nat → Option Int) (v : Int) (h : j ≤ n) : (rowV n f).set j (.int v) = rowV n (fun b => if b = j then some v else f b) := by
  apply List.ext_getElem?
  intro k
  by_cases hk : k ≤ n
  · rw [rowV_at _ hk]
    by_cases e : k = j
    · subst e
      rw [List.getElem?_set_self (by rw [rowV_len]; omega)]
      show some (V.int v) = some (ov (if k = k then some v else f k))
      rw [if_pos rfl]; rfl
    · rw [List.getElem?_set_ne (fun z => e z.symm), rowV_at _ hk]
      show _ = some (ov (if k = j then some v else f k))
      rw [if_neg e]
  · rw [List.getElem?_eq_none (by rw [List.length_set, rowV_len]; omega), List.getElem?_eq_none (by rw [rowV_len]; omega)]
structure TabAt (H : Hp) (l : Addr) (rs : List Addr) (m n : Nat) (T : Tb) : Prop where
  top : H l = some (.lst (rs.map V.ref))
  len : rs.length = m + 1
  row : ∀ i r, rs[i]? = some r → H r = some (.lst (rowV n (T i)))
  nd : rs.Nodup
  ne : l ∉ rs
theorem TabAt.mono {H H' : Hp} {l : Addr} {rs : List Addr} {m n : Nat} {T : Tb} (h : TabAt H l rs m n T) (S : Same H H') : TabAt H' l rs m n T := ⟨S _ _ h.top, h.len, fun i r e => S _ _ (h.row i r e), h.nd, h.ne⟩
theorem TabAt.line {H : Hp} {l : Addr} {rs : List Addr} {m n : Nat} {T : Tb} (h : TabAt H l rs m n T) {i : Nat} (hi : i ≤ m) : ∃ r, rs[i]? = some r ∧ atI (rs.map V.ref) ((i : Nat) : Int) = some (.ref r) ∧ H r = some (.lst (rowV n (T i))) := by
  have hl : i < rs.length := by rw [h.len]; omega
  refine ⟨rs[i], List.getElem?_eq_getElem hl, atI_nat ?_, h.row i _ (List.getElem?_eq_getElem hl)⟩
  rw [List.getElem?_map, List.getElem?_eq_getElem hl]; rfl
theorem rowV_atI {n j : Nat} (f : Nat → Option Int) (h : j ≤ n) : atI (rowV n f) ((j : Nat) : Int) = some (ov (f j)) := atI_nat (rowV_at f h)
theorem ixN_nat {n j : Nat} (h : j < n) : ixN n ((j : Nat) : Int) = some j := by
  unfold ixN
  have h1 : ¬ ((j : Int) < 0) := by omega
  simp [h1, h]
theorem nd_inj {α : Type} {l : List α} (h : l.Nodup) {i j : Nat} (hi : i < l.length) (hj : j < l.length) (e : l[i]? = l[j]?) : i = j := by
  have key : ∀ (a b : Nat) (ha : a < l.length) (hb : b < l.length), a < b → l[a]? ≠ l[b]? := by
    intro a b ha hb hab z
    have := (List.pairwise_iff_getElem.mp h) a b ha hb hab
    rw [List.getElem?_eq_getElem ha, List.getElem?_eq_getElem hb] at z
    exact this (Option.some.inj z)
  rcases Nat.lt_trichotomy i j with c | c | c
  · exact absurd e (key i j hi hj c)
  · exact c
  · exact absurd e.symm (key j i hj hi c)
theorem TabAt.put {H : Hp} {l r : Addr} {rs : List Addr} {m n i j : Nat} {T : Tb} (v : Int) (h : TabAt H l rs m n T) (hr : rs[i]? = some r) (hj : j ≤ n) : TabAt (upd H r (.lst ((rowV n (T i)).set j (.int v)))) l rs m n (T.put i j v) := by
  have hm : r ∈ rs := List.mem_of_getElem? hr
  have hil : i < rs.length := (List.getElem?_eq_some_iff.mp hr).1
  refine ⟨?_, h.len, ?_, h.nd, h.ne⟩
  · rw [upd_ne (fun e => h.ne (by rw [e]; exact hm))]; exact h.top
  · intro k r' hk
    by_cases e : k = i
    · subst e
      rw [hr] at hk
      injection hk with hk
      subst hk
      rw [upd_same, rowV_set _ _ hj]
      congr 2
      unfold rowV
      apply List.map_congr_left
      intro b _
      congr 1
      show (if b = j then some v else T k b) = if k = k ∧ b = j then some v else T k b
      by_cases eb : b = j
      · rw [if_pos eb, if_pos ⟨rfl, eb⟩]
      · rw [if_neg eb, if_neg (fun z => eb z.2)]
    · have hne : r' ≠ r := fun z => e (by
        have hkl : k < rs.length := (List.getElem?_eq_some_iff.mp hk).1
        exact nd_inj h.nd hkl hil (by rw [hk, hr, z]))
      rw [upd_ne hne, h.row k r' hk]
      congr 2
      unfold rowV
      apply List.map_congr_left
      intro b _
      congr 1
      rw [Tb.put_ne _ _ (fun z => e z.1)]
end Vm
set_option Elab.async false
set_option linter.all false
set_option maxRecDepth 100000
namespace L2
open PySem PySem.Spec PyProof.Rows
section
variable {κ : Type} [DecidableEq κ]
end
section
variable {P : Program} {w : World} {H : Hp} {h : Heap} {a : Addr}
end
section
variable {X : Cx} {pins : List (Addr × Obj)} {σ : St} {H : Hp} {s : Shared} {a : Addr} {y v : V} {u r : Value} {o : Option V} {A : Around} {E : Value → Shared → Prop}
end
end L2
set_option Elab.async false
set_option linter.all false
set_option maxRecDepth 100000
set_option maxHeartbeats 4000000
namespace Vm
open PySem PySem.Spec PyProof.Rows L2 L3
theorem best_le (val : Nat → Int) : ∀ k j, j ≤ k → val (argBest (fun a b => decide (val a < val b)) k) ≤ val j
  | 0, j, h => by rw [show j = 0 by omega]; exact Int.le_refl _
  | k + 1, j, h => by
    have ih := best_le val k
    show val (if decide (val (k + 1) < val (argBest (fun a b => decide (val a < val b)) k)) = true then k + 1 else argBest (fun a b => decide (val a < val b)) k) ≤ val j
    by_cases hb : val (k + 1) < val (argBest (fun a b => decide (val a < val b)) k)
    · rw [if_pos (decide_eq_true hb)]
      by_cases e : j = k + 1
      · rw [e]; exact Int.le_refl _
      · have := ih j (by omega); omega
    · rw [if_neg (by rw [decide_eq_false hb]; exact Bool.false_ne_true)]
      by_cases e : j = k + 1
      · rw [e]; omega
      · exact ih j (by omega)
theorem best_in (bt : Nat → Nat → Bool) : ∀ k, argBest bt k ≤ k
  | 0 => Nat.le_refl _
  | k + 1 => by
    have ih := best_in bt k
    show (if bt (k + 1) (argBest bt k) = true then k + 1 else argBest bt k) ≤ k + 1
    by_cases h : bt (k + 1) (argBest bt k) = true
    · rw [if_pos h]; exact Nat.le_refl _
    · rw [if_neg h]; omega
theorem minD_turn {pr : Program} {wd : World} {A : Around} {R : Result → Shared → Prop} {I : Addr} {fp wr : List Addr} {n : Nat} {Pp : Nat → Value → Prop} {Sp' : Nat → Heap → Prop} (d : Value) (T : Walks pr wd A.in1 I fp wr n Pp Sp') (bt : Nat → Nat → Bool) (hb : CmpOf pr wd A.in1 .Lt Pp bt) (B : Addr) (hB : B ∉ fp) :
    ∀ (k j : Nat) (s : Shared) (u : Value) (c : Nat), n - (j + 1) = k → j + 1 ≤ n → Sp' (j + 1) s.heap → Pp (argBest bt j) u → s.heap.get? B = some ⟨.type "list", none, .seq #[u, u] c, #[]⟩ →
      (∀ v h2 tk, Pp (argBest bt (n - 1)) v → (∀ b o, b ∉ wr → b ≠ B → s.heap.get? b = some o → h2.get? b = some o) → R (.ok (.ret v)) { s with heap := h2, toks := tk }) →
      codeAny (model pr wd) A (.builtin "min.loop" ⟨[.ref I, .none, .ref B], [(Str.ofString "default", d)]⟩) R s := by
  have hw : B ∉ wr := fun h => hB (T.sub _ h)
  have nm : (toString "min" ++ toString ".loop" : String) = "min.loop" := by decide
  intro k
  induction k with
  | zero =>
    intro j s u c hk hj hst hu hS hR
    have e1 : j + 1 = n := by omega
    refine codeAny_builtin PySem.F.entry_min_loop ?_; rw [Around.under_plainId PySem.F.plain_min_loop _]
    show wpAny _ A.in1 (seqItems? (.ref B) >>= _) _ _ s; refine wpAny_bind (wpAny_seqItems hS rfl ?_)
    show wpAny _ A.in1 (tryCatch (pyNext (.ref I)) _ >>= _) _ _ s; refine wpAny_bind (wpAny_tryCatch (T.done s _ _ (e1 ▸ hst) fun h2 tk hk2 => ?_))
    have hS2 := hk2 B _ hw hS
    show wpAny _ A.in1 (updateSeq B (fun _ => #[]) >>= _) _ _ _; refine wpAny_bind (wpAny_updateSeq hS2 rfl (wpAny_bind (wpAny_letGo (wpAny_pure ?_))))
    exact hR u _ tk (by rw [← e1]; exact hu) fun b o bw bS e => (Heap.get?_update_other _ _ (Ne.symm bS)).trans (hk2 b o bw e)
  | succ k ih =>
    intro j s u c hk hj hst hu hS hR
    have lt : j + 1 < n := by omega
    refine codeAny_builtin PySem.F.entry_min_loop ?_; rw [Around.under_plainId PySem.F.plain_min_loop _]
    show wpAny _ A.in1 (seqItems? (.ref B) >>= _) _ _ s; refine wpAny_bind (wpAny_seqItems hS rfl ?_)
    show wpAny _ A.in1 (tryCatch (pyNext (.ref I)) _ >>= _) _ _ s; refine wpAny_bind (wpAny_tryCatch (T.item (j + 1) s _ _ lt hst fun v h2 tk hv hst2 hk2 => ?_))
    have hS2 := hk2 B _ hw hS
    show wpAny _ A.in1 (tryCatch (holding [v, v] (richCompare .Lt v u >>= _)) _ >>= _) _ _ _; refine wpAny_bind (wpAny_tryCatch (wpAny_holding (wpAny_bind (hb (j + 1) (argBest bt j) v u _ _ _ hv hu ?_))))
    refine wpAny_bind (wpAny_holding (wpAny_truthy_bool (wpAny_bind (wpAny_letGo (wpAny_pure ?_)))))
    cases hbt : bt (j + 1) (argBest bt j) with
    | true =>
      simp only [if_true]; refine wpAny_bind (wpAny_updateSeq hS2 rfl (wpAny_bind (wpAny_letGo ?_))); rw [nm]
      refine wpAny_pure ⟨plainId_quiet PySem.F.plain_min_loop _, ih (j + 1) _ v _ (by omega) lt (T.frame _ _ _ hst2 fun b bf o e => ?_) (by simp only [argBest, hbt, if_true]; exact hv) (Heap.get?_update_self _ hS2 rfl) fun v3 h3 tk3 hv3 hk3 => ?_⟩
      · exact (Heap.get?_update_other _ _ (fun h : B = b => hB (by rw [h]; exact bf))).trans e
      · exact hR v3 h3 tk3 hv3 fun b o bw bS e => hk3 b o bw bS ((Heap.get?_update_other _ _ (Ne.symm bS)).trans (hk2 b o bw e))
    | false =>
      simp only [Bool.false_eq_true, if_false]; refine wpAny_bind (wpAny_letGo ?_); rw [nm]
      refine wpAny_pure ⟨plainId_quiet PySem.F.plain_min_loop _, ih (j + 1) _ u c (by omega) lt hst2 (by simp only [argBest, hbt, Bool.false_eq_true, if_false]; exact hu) hS2 fun v3 h3 tk3 hv3 hk3 => ?_⟩
      exact hR v3 h3 tk3 hv3 fun b o bw bS e => hk3 b o bw bS (hk2 b o bw e)
theorem minD_first {pr : Program} {wd : World} {A : Around} {R : Result → Shared → Prop} {I : Addr} {fp wr : List Addr} {n : Nat} {Pp : Nat → Value → Prop} {Sp' : Nat → Heap → Prop} (d : Value) (T : Walks pr wd A.in1 I fp wr n Pp Sp') (bt : Nat → Nat → Bool) (hb : CmpOf pr wd A.in1 .Lt Pp bt) (B : Addr) (hB : B ∉ fp) {s : Shared} {c : Nat} (hst : Sp' 0 s.heap)
    (hS : s.heap.get? B = some ⟨.type "list", none, .seq #[] c, #[]⟩)
    (h0 : n = 0 → ∀ h2 tk, (∀ b o, b ∉ wr → b ≠ B → s.heap.get? b = some o → h2.get? b = some o) → R (.ok (.ret d)) { s with heap := h2, toks := tk })
    (hR : 0 < n → ∀ v h2 tk, Pp (argBest bt (n - 1)) v → (∀ b o, b ∉ wr → b ≠ B → s.heap.get? b = some o → h2.get? b = some o) → R (.ok (.ret v)) { s with heap := h2, toks := tk }) :
    codeAny (model pr wd) A (.builtin "min.loop" ⟨[.ref I, .none, .ref B], [(Str.ofString "default", d)]⟩) R s := by
  have hw : B ∉ wr := fun h => hB (T.sub _ h)
  have nm : (toString "min" ++ toString ".loop" : String) = "min.loop" := by decide
  refine codeAny_builtin PySem.F.entry_min_loop ?_; rw [Around.under_plainId PySem.F.plain_min_loop _]
  show wpAny _ A.in1 (seqItems? (.ref B) >>= _) _ _ s; refine wpAny_bind (wpAny_seqItems hS rfl ?_)
  show wpAny _ A.in1 (tryCatch (pyNext (.ref I)) _ >>= _) _ _ s
  by_cases hn : n = 0
  · refine wpAny_bind (wpAny_tryCatch (T.done s _ _ (hn ▸ hst) fun h2 tk hk2 => ?_))
    show wpAny _ A.in1 (rule _ >>= _) _ _ _
    refine wpAny_bind (wpAny_rule (wpAny_pure ?_))
    exact h0 hn h2 tk fun b o bw _ e => hk2 b o bw e
  · have hn : 0 < n := by omega
    refine wpAny_bind (wpAny_tryCatch (T.item 0 s _ _ hn hst fun v h2 tk hv hst2 hk2 => ?_))
    have hS2 := hk2 B _ hw hS
    show wpAny _ A.in1 (updateSeq B (fun _ => #[v, v]) >>= _) _ _ _; refine wpAny_bind (wpAny_updateSeq hS2 rfl ?_); rw [nm]
    refine wpAny_pure ⟨plainId_quiet PySem.F.plain_min_loop _, minD_turn d T bt hb B hB _ 0 _ v _ rfl hn (T.frame _ _ _ hst2 fun b bf o e => ?_) hv (Heap.get?_update_self _ hS2 rfl) fun v3 h3 tk3 hv3 hk3 => ?_⟩
    · exact (Heap.get?_update_other _ _ (fun h : B = b => hB (by rw [h]; exact bf))).trans e
    · exact hR hn v3 h3 tk3 hv3 fun b o bw bS e => hk3 b o bw bS ((Heap.get?_update_other _ _ (Ne.symm bS)).trans (hk2 b o bw e))
theorem args_minD (a v : Value) : argsOk "min" ⟨[a], [(Str.ofString "default", v)]⟩ := by unfold argsOk; kernel_rfl
theorem minD_call {pr : Program} {wd : World} {A : Around} {E : Value → Shared → Prop} {s : Shared} {x d : Value} {Q : Value → Shared → Prop}
    (h : wpAny (model pr wd) A.in1 (pyIter x) (fun it s2 => ∃ I fp wr n Pp Sp' bt, it = .ref I ∧ Walks pr wd A.in1 I fp wr n Pp Sp' ∧ Sp' 0 s2.heap ∧ (∀ b ∈ fp, b < s2.heap.objs.size) ∧ CmpOf pr wd A.in1 .Lt Pp bt ∧
      (n = 0 → ∀ h2 tk, (∀ b o, b ∉ wr → s2.heap.get? b = some o → h2.get? b = some o) → Q d { s2 with heap := h2, toks := tk }) ∧
      (0 < n → ∀ v h2 tk, Pp (argBest bt (n - 1)) v → (∀ b o, b ∉ wr → s2.heap.get? b = some o → h2.get? b = some o) → Q v { s2 with heap := h2, toks := tk })) E s) :
    wpAny (model pr wd) A (call (.builtin "min") [x] [(Str.ofString "default", d)]) Q E s := by
  have nm : (toString "min" ++ toString ".loop" : String) = "min.loop" := by decide
  refine kmb_tree PySem.F.kind_min PySem.F.plain_min PySem.F.entry_min (args_minD _ _) ?_
  show wpAny _ A.in1 (Builtin.Builtins.bindParams "min" ["key", "default"] 0 ⟨[], [(Str.ofString "default", d)]⟩ >>= _) _ _ s
  refine wpAny_bind (wpAny_of_eq (show Builtin.Builtins.bindParams "min" ["key", "default"] 0 ⟨[], [(Str.ofString "default", d)]⟩ = pure [none, some d] from rfl) (wpAny_bind (wpAny_pure ?_)))
  refine wpAny_bind (wpAny_mono h (fun it s2 g => ?_) fun _ _ e => e)
  obtain ⟨I, fp, wr, n, Pp, Sp', bt, rfl, T, hst, hfp, hb, g0, g1⟩ := g
  refine wpAny_bind (wpAny_newObj_type ?_); rw [nm]
  have nB : s2.heap.objs.size ∉ fp := fun hm => Nat.lt_irrefl _ (hfp _ hm)
  refine wpAny_pure ⟨plainId_quiet PySem.F.plain_min_loop _, minD_first d T bt hb s2.heap.objs.size nB (T.frame _ _ _ hst fun b _ o e => Heap.get?_push_of_some _ e) (Heap.get?_push_size _ rfl) (fun hn h2 tk hk => ?_) fun hn v h2 tk hv hk => ?_⟩
  · exact g0 hn h2 tk fun b o bw e => hk b o bw (Nat.ne_of_lt (Heap.lt_size e)) (Heap.get?_push_of_some _ e)
  · exact g1 hn v h2 tk hv fun b o bw e => hk b o bw (Nat.ne_of_lt (Heap.lt_size e)) (Heap.get?_push_of_some _ e)
theorem comp_trip {α : Type} {K : PySem.W.Frag} {J : It} {H : Hp} {as : List α} {v : α → V} {x y z : α → V} (e : α → V) {te : TE} {Q : VK} {rest : L2.St} (S : Src J H (as.map v)) (hz : as.length ≤ sizeLine)
    (hp : ∀ a ∈ as, ∃ p, v a = .ref p ∧ SqT K H p [x a, y a, z a]) (he : ∀ a ∈ as, ∀ k : VK, k (e a) H → te (some (x a) :: some (y a) :: some (z a) :: rest) H k)
    (hq : ∀ D, H D = none → Q (.ref D) (upd H D (.lst (as.map e)))) : wComp J (gTup K 3 (gCons (gName 0) (gCons (gName 1) (gCons (gName 2) gNil)))) tYes te Q (none :: none :: none :: rest) H := by
  refine ⟨fun i m σ acc H' => H' = H ∧ i ≤ as.length ∧ m = as.length - i ∧ acc = (as.take i).map e ∧ ∃ o1 o2 o3, σ = o1 :: o2 :: o3 :: rest, ⟨as.length, rfl, Nat.zero_le _, rfl, by simp, none, none, none, rfl⟩, ?_⟩
  rintro i m σ acc H' ⟨rfl, hi, rfl, rfl, o1, o2, o3, rfl⟩
  have hacc : ((as.take i).map e).length ≤ i := by
    rw [List.length_map, List.length_take]; exact Nat.min_le_left _ _
  by_cases hlt : i < as.length
  · refine .inr ⟨S.go i (by rw [List.length_map]; exact hlt), fun w H1 yl => ?_⟩
    obtain ⟨rfl, hx⟩ := S.yld i w H1 (by rw [List.length_map]; exact hlt) yl
    rw [List.getElem?_map, List.getElem?_eq_getElem hlt] at hx
    have hx' : v as[i] = w := Option.some.inj hx
    subst hx'
    have hm : as[i] ∈ as := List.getElem_mem hlt
    obtain ⟨p, ep, hpp⟩ := hp _ hm
    have ts : as.take (i + 1) = as.take i ++ [as[i]] := List.take_succ_eq_append_getElem hlt
    refine ⟨p, _, ep, hpp, rfl, _, _, rfl, _, _, rfl, _, _, rfl, rfl, ?_⟩
    show te (some (x as[i]) :: some (y as[i]) :: some (z as[i]) :: rest) H1 _
    refine he _ hm _ ⟨by omega, as.length - (i + 1), by omega, rfl, hlt, rfl, ?_, _, _, _, rfl⟩
    rw [ts, List.map_append]
    rfl
  · have ei : i = as.length := by omega
    subst ei
    refine .inl ⟨S.stop _ (by rw [List.length_map]; exact Nat.le_refl _), by omega, fun D hD => ?_⟩
    rw [List.take_length]
    exact hq D hD
section
variable {X : Cx}
def rMinD (K : PySem.W.Frag) : V → Hp → VK → Prop := fun x H Q => ∃ (p : Addr) (ns : List Int), x = .ref p ∧ SqL K H p (ns.map V.int) ∧ (ns = [] → Q (.int 0) H) ∧ ∀ m ∈ ns, (∀ n ∈ ns, m ≤ n) → Q (.int m) H
def tMinD (K : PySem.W.Frag) (te : TE) : TE := fun σ H Q => te σ H fun x H1 => rMinD K x H1 Q
theorem op_catA : OpR X (binaryOp .Add) (fun x y H Q => ∃ (a b : Addr) (xs ys : List V), x = .ref a ∧ y = .ref b ∧ SqT X.K H a xs ∧ SqT X.K H b ys ∧ xs.length + ys.length ≤ sizeLine ∧ ∀ (r : Addr) (H2 : Hp), Same H H2 → SqT X.K H2 r (xs ++ ys) → Q (.ref r) H2) := by
  intro pins s σ H x y v u Q I rx ry h
  obtain ⟨a, b, xs, ys, rfl, rfl, ha, hb, hz, q⟩ := h
  by_cases hx : xs = []
  · cases rx; cases ry
    obtain ⟨its, r1, p1, _⟩ := I.tuple ha
    obtain ⟨its2, r2, p2, _⟩ := I.tuple hb
    have hv : its = [] := r1.nil_iff.mpr hx
    obtain ⟨⟨c1, dd1, data1, sl1⟩, o1, hc1, n1, hd1⟩ := id p1
    obtain ⟨⟨c2, dd2, data2, sl2⟩, o2, hc2, n2, hd2⟩ := id p2
    simp only at hc1 hd1 hc2 hd2
    subst hc1 hd1 hc2 hd2
    exact concat_meets ⟨_, o1, rfl⟩ ⟨_, o2, rfl⟩ noFill_tuple_add seq_tuple_add PySem.F.slot_tuple_add PySem.F.entry_tuple_add (PySem.F.args_tuple_add_2 _ _) (tuple_addW0 a b its.toArray its2.toArray n1 n2 dd1 dd2 sl1 sl2 (by simp [hv])) ⟨o1, o2, ⟨.ref b, H, I, rfl, q b H (Same.refl H) (by rw [hx]; exact hb)⟩⟩
  · exact op_catT pins s σ H _ _ v u Q I rx ry ⟨a, b, xs, ys, rfl, rfl, ha, hb, hx, hz, fun e => q a H (Same.refl H) (by rw [e, List.append_nil]; exact ha), fun _ p hp => q p _ (same_upd hp) (SqT.of upd_same)⟩
theorem pe_minD {e : Expr} {te : TE} {p pos cp kp : Pos} {cj : Nat} (hc : X.calm = true) (hg : Gl X "min") (hm : X.mg "min" = none) (he : PE X e te) (hs : starEach [e] X.env = [(false, eval e X.env)] := by rfl) :
    PE X (.Call (.Name "min" p) [e] [⟨some "default", .Constant (.int 0) cj cp, kp⟩] pos) (tMinD X.K te) := by
  intro pins s σ H Q I h
  refine wpAny_Call_Name_kw (ld_blt I hg hm boot_min ?_ (by decide) (by decide))
  have hpa : PA X [e] (tCons te tNil) := pa_cons he pa_nil hs
  refine callWith_kw (thn (hpa pos pins s σ H (fun xs H1 => match xs with | [x] => rMinD X.K x H1 Q | _ => False) I h) fun us s1 ⟨vs, H1, I1, r1, q1⟩ => ?_) (by rw [hs]; rfl) (by rw [hs]; rfl) rfl rfl
  match vs, r1, q1 with
  | [x], r1, q1 =>
    obtain ⟨u, rfl, ru⟩ := r1.one
    refine kws_cons (thn (pe_int pins s1 σ H1 (fun y H2 => y = V.int 0 ∧ rMinD X.K x H2 Q) I1 ⟨rfl, q1⟩) fun d s2 ⟨y, H2, I2, ry, ey, p, ns, ex, hq, q0, qm⟩ => kws_nil ?_)
    subst ey ex
    obtain ⟨td, rfl⟩ := ry
    cases ru
    show wpAny _ _ (call (.builtin "min") [.ref p] [(Str.ofString "default", Value.int 0 td)]) _ _ _
    obtain ⟨its, rv, hp, hz⟩ := I2.list hq
    have hlt : p < s2.heap.objs.size := by obtain ⟨_, e, _⟩ := hp.isList; exact Heap.lt_size e
    have el : its.toArray.size = ns.length := by rw [List.size_toArray, ← rv.length, List.length_map]
    have hval : ∀ (i : Nat) (v : Value), its.toArray[i]? = some v → ∃ t, v = .int (ns.getD i 0) t := fun i v hv => by
      have hv' : its[i]? = some v := by simpa using hv
      have hi : i < ns.length := by
        have := (List.getElem?_eq_some_iff.mp hv').1
        rw [← el, List.size_toArray]; exact this
      obtain ⟨u, hu, ru⟩ := rv.get (i := i) (x := V.int ns[i]) (by rw [List.getElem?_map, List.getElem?_eq_getElem hi]; rfl)
      rw [hv'] at hu; cases hu
      obtain ⟨t, rfl⟩ := ru
      exact ⟨t, by show Value.int ns[i] t = Value.int (ns.getD i 0) t; rw [List.getD_eq_getElem?_getD, List.getElem?_eq_getElem hi]; rfl⟩
    refine minD_call (wpAny_pyIter_list hp.isList ?_)
    refine ⟨s2.heap.objs.size, [s2.heap.objs.size, p], [s2.heap.objs.size], its.toArray.size, _, _, fun a b => decide (ns.getD a 0 < ns.getD b 0), rfl, Walks.list (A := X.A.in1) (I2.ok.hd hc) _ _ (Nat.ne_of_lt hlt) its.toArray, ⟨⟨_, Heap.get?_push_size _ rfl, rfl, rfl⟩, hp.isList.push _⟩, ?_, CmpOf.ints_lt (fun i => ns.getD i 0) hval, ?_, ?_⟩
    · intro b hb
      simp only [List.mem_cons, List.not_mem_nil, or_false] at hb
      rw [Heap.size_push]
      rcases hb with rfl | rfl
      · exact Nat.lt_succ_self _
      · exact Nat.lt_succ_of_lt hlt
    · intro hn h2 tk hk
      exact ⟨.int 0, H2, I2.kept fun b o e => hk b o (fun z => absurd (Heap.lt_size e) (by rw [List.mem_singleton.mp z]; exact Nat.lt_irrefl _)) (Heap.get?_push_of_some _ e), ⟨_, rfl⟩, q0 (List.length_eq_zero_iff.mp (by omega))⟩
    · intro hn v h2 tk hv hk
      obtain ⟨t, rfl⟩ := hval _ _ hv
      have hb := best_in (fun a b => decide (ns.getD a 0 < ns.getD b 0)) (its.toArray.size - 1)
      have hle := best_le (fun i => ns.getD i 0) (its.toArray.size - 1)
      generalize argBest (fun a b => decide (ns.getD a 0 < ns.getD b 0)) (its.toArray.size - 1) = k at hb hle hv
      have hkl : k < ns.length := by omega
      refine ⟨.int (ns.getD k 0), H2, I2.kept fun b o e => hk b o (fun z => absurd (Heap.lt_size e) (by rw [List.mem_singleton.mp z]; exact Nat.lt_irrefl _)) (Heap.get?_push_of_some _ e), ⟨_, rfl⟩, qm _ ?_ fun m hm => ?_⟩
      · rw [List.getD_eq_getElem?_getD, List.getElem?_eq_getElem hkl]; exact List.getElem_mem hkl
      · obtain ⟨j, hj, rfl⟩ := List.mem_iff_getElem.mp hm
        have := hle j (by omega)
        rw [List.getD_eq_getElem?_getD (i := j), List.getElem?_eq_getElem hj] at this
        exact this
end
end Vm
namespace K20
open PySem PySem.Spec PyProof.Rows L2 L3 Vm
def top (i : Nat) : Stmt := PySem.Challenge.pw_vellum_k20_whole_no_drawn_slips_are_chea.main.body.getD i (.Pass ⟨0, 0, 0, 0⟩)
abbrev sLooks : Stmt := top 1
abbrev sPrice : Stmt := top 5
abbrev sSwW : Stmt := top 7
abbrev sSkL : Stmt := top 8
abbrev sWays : Stmt := top 9
abbrev sEmp : Stmt := top 10
abbrev sTld : Stmt := top 11
abbrev sPtab : Stmt := top 12
abbrev sRtab : Stmt := top 13
abbrev sCW : Stmt := top 15
abbrev sFC : Stmt := top 16
abbrev sLs : Stmt := top 17
abbrev sCell : Stmt := top 19
abbrev sStir : Stmt := top 20
abbrev sNext : Stmt := top 21
abbrev sWord : Stmt := top 22
abbrev sPrices : Stmt := top 23
abbrev sEye : Stmt := top 24
abbrev sSlip : Stmt := top 25
abbrev sPair : Stmt := top 26
abbrev sMP : Stmt := top 27
abbrev sLAlk : Stmt := top 28
abbrev sLPrice : Stmt := top 29
abbrev sFormed : Stmt := top 30
abbrev sDoes : Stmt := top 31
abbrev sMade : Stmt := top 32
abbrev sLWk : Stmt := top 33
abbrev sIs : Stmt := top 34
abbrev sTW : Stmt := top 35
abbrev sLaw : Stmt := top 36
section
variable {P : Program} {w : World} {K : PySem.W.Frag} {mg : Str → Option Value} {base : Heap}
structure Dfn (K : PySem.W.Frag) (mg : Str → Option Value) (x : Str) (st : Stmt) (f : Addr) (fd : FuncData) (ps : List Str) : Prop where
  fn : Fun K x x st f fd
  at_ : mg x = some (.ref f)
  bn : Binds K fd ps []
theorem kit_same (v : Value) : PySem.W.kitOne K v v = some true := by
  unfold PySem.W.kitOne
  rw [if_pos (beq_self_eq_true _)]
def cellD (ns : List Int) (k : Int) : Int := (ns[k.toNat]?).getD 0
def spCell (K : PySem.W.Frag) : Sp := fun vs H Q _ => ∃ (a : Addr) (ns : List Int) (k : Int), vs = [.ref a, .int k] ∧ SqL K H a (ns.map V.int) ∧ 0 ≤ k ∧ Q (.int (cellD ns k)) H
theorem scCell : FnScope ["script", "k"] ["script", "k"] (defScope sCell) := ⟨rfl, rfl, rfl, by decide +kernel, rfl, by decide +kernel, by decide +kernel⟩
theorem ok_cell {f : Addr} {fd : FuncData} (F : Fun K "_law_cell_at" "_law_cell_at" sCell f fd) (mlen : mg "len" = none) : FnOk P w K mg base CX0 1 f fd ["script", "k"] (spCell K) := by
  refine Fun.okR F scCell (fun vs H Q E h => ?_) (fun cdv A outer s H vs Q Q2 E hr h hq => ?_)
  · obtain ⟨a, ns, k, rfl, _⟩ := h
    rfl
  · obtain ⟨a, ns, k, rfl, hS, h0, q⟩ := h
    refine ⟨_, pss_cons (ps_if (pt_cmpR op_lt (pv 1) (pe_callB call_len_seq (by rfl) mlen PySem.boot_len (pa_cons (pv 0) pa_nil)) (nomark _)) (pss_one (ps_ret (pe_ix ix_list (pv 0) (pv 1) (fun _ _ => rfl)))) pss_nil)
      (pss_one (ps_ret pe_int)), ?_⟩
    refine ⟨_, rfl, _, rfl, a, _, rfl, .inl hS, _, _, rfl, rfl, _, rfl, ?_⟩
    obtain ⟨j, hj⟩ : ∃ j : Nat, k = (j : Int) := ⟨k.toNat, by omega⟩
    subst hj
    refine ite2 (fun h => ?_) (fun h => ?_)
    · have hl := of_decide_eq_true h
      rw [List.length_map] at hl
      have hj' : j < ns.length := by omega
      have e : cellD ns (j : Int) = ns[j] := by unfold cellD; rw [Int.toNat_natCast, List.getElem?_eq_getElem hj']; rfl
      rw [e] at q
      exact ⟨_, rfl, _, rfl, a, _, _, _, rfl, rfl, hS, atI_nat (by rw [List.getElem?_map, List.getElem?_eq_getElem hj']; rfl), hq _ _ (Rst.same (Same.refl H) q)⟩
    · have hl : ¬ ((j : Int) < ((ns.map V.int).length : Int)) := fun c => h (decide_eq_true c)
      rw [List.length_map] at hl
      have e : cellD ns (j : Int) = 0 := by unfold cellD; rw [Int.toNat_natCast, List.getElem?_eq_none (by omega)]; rfl
      rw [e] at q
      exact hq _ _ (Rst.same (Same.refl H) q)
def spSwW (K : PySem.W.Frag) : Sp := fun vs H Q _ => ∃ (p q : Addr) (es cs : List Str) (i j : Nat), vs = [.ref p, .ref q, .int (i : Nat), .int (j : Nat)] ∧ SqT K H p (es.map V.str) ∧ SqT K H q (cs.map V.str) ∧ Q (.bl (swapW es cs i j)) H
theorem scSwW : FnScope ["elder", "copy", "i", "j"] ["elder", "copy", "i", "j"] (defScope sSwW) := ⟨rfl, rfl, rfl, by decide +kernel, rfl, by decide +kernel, by decide +kernel⟩
theorem ok_sww {f : Addr} {fd : FuncData} (F : Fun K "swap_writes" "swap_writes" sSwW f fd) (mlen : mg "len" = none) : FnOk P w K mg base CX0 1 f fd ["elder", "copy", "i", "j"] (spSwW K) := by
  refine Fun.okR F scSwW (fun vs H Q E h => ?_) (fun cdv A outer s H vs Q Q2 E hr h hq => ?_)
  · obtain ⟨p, q, es, cs, i, j, rfl, _⟩ := h
    rfl
  · obtain ⟨p, q0, es, cs, i, j, rfl, hp, hc, q⟩ := h
    refine ⟨_, pss_cons (ps_if (pw_or (pt_cmpR op_ge (pe_op op_add (pv 2) pe_int) (pe_callB call_len_seq (by rfl) mlen PySem.boot_len (pa_cons (pv 0) pa_nil)) (nomark _)) (pw_or1 (pt_cmpR op_eq (pe_ix ix_tup (pv 0) (pv 2) (fun _ _ => rfl)) (pe_ix ix_tup (pv 0) (pe_op op_add (pv 2) pe_int) (fun _ _ => rfl)) (nomark _)))).pt (pss_one (ps_ret pe_bl)) pss_nil)
      (pss_one (ps_ret (pe_cmpR (op_eqS hr.units) (pe_slice sl_tupA (pv 1) (po_some (pv 3)) (po_some (pe_op op_add (pv 3) pe_int))) (pe_tup (pa_cons (pe_ix ix_tup (pv 0) (pe_op op_add (pv 2) pe_int) (fun _ _ => rfl)) (pa_cons (pe_ix ix_tup (pv 0) (pv 2) (fun _ _ => rfl)) pa_nil))) (nomark _)))), ?_⟩
    have go : ∀ b H', Same H H' → swapW es cs i j = b → Q2 (.bl b) H' := fun b H' S e => hq _ _ (Rst.same S (by rw [← e]; exact q))
    have hlen : (es.map V.str).length = es.length := List.length_map ..
    refine ⟨_, rfl, _, _, rfl, rfl, _, rfl, p, _, rfl, .inr hp, _, _, rfl, rfl, _, rfl, ?_⟩
    rw [hlen]
    refine ite2 (fun h => iteT (go _ _ (Same.refl _) ?_)) (fun h => ?_)
    · have := of_decide_eq_true h
      unfold swapW
      rw [if_neg (by omega)]
    have hi : ¬ ((es.length : Int) ≤ ((i : Nat) : Int) + 1) := fun c => h (decide_eq_true c)
    have e1 : ((i : Nat) : Int) + 1 = ((i + 1 : Nat) : Int) := by omega
    refine ⟨_, rfl, _, rfl, p, _, _, _, rfl, rfl, hp, at_w (by omega), _, rfl, _, rfl, _, _, rfl, rfl, p, _, _, _, rfl, rfl, hp, (by rw [e1]; exact at_w (by omega)), rfl, _, rfl, ?_⟩
    refine ite2 (fun h2 => go _ _ (Same.refl _) ?_) (fun h2 => ?_)
    · have e := of_decide_eq_true h2
      injection e with e
      unfold swapW
      rw [if_pos (by omega), if_pos e]
    have hne : ¬ gt es i = gt es (i + 1) := fun c => h2 (decide_eq_true (by rw [c]))
    refine ⟨_, rfl, _, rfl, _, rfl, _, rfl, _, _, rfl, rfl, _, rfl, cutTup hc fun pc Hc Sc hpc => ?_⟩
    rw [cutV_two] at hpc
    refine ⟨_, rfl, _, rfl, _, _, rfl, rfl, p, _, _, _, rfl, rfl, sameT Sc hp, (by rw [e1]; exact at_w (by omega)), _, rfl, _, rfl, p, _, _, _, rfl, rfl, sameT Sc hp, at_w (by omega), few (by show 2 ≤ _; omega), fun t ht => ?_⟩
    have St := same_upd (o := .tup [.str (gt es (i + 1)), .str (gt es i)]) ht
    have q1 : SqT K (upd Hc t (.tup [.str (gt es (i + 1)), .str (gt es i)])) t ([gt es (i + 1), gt es i].map V.str) := SqT.of upd_same
    refine ⟨0, _, by decide, EqS.strs (.inr ⟨sameT St hpc, q1⟩), go _ _ (Sc.trans St) ?_⟩
    unfold swapW
    rw [if_pos (by omega), if_neg hne]
def spSkL (K : PySem.W.Frag) : Sp := fun vs H Q _ => ∃ (p : Addr) (es : List Str) (i : Nat), vs = [.ref p, .int (i : Nat)] ∧ SqT K H p (es.map V.str) ∧ i ≤ es.length ∧ es.length ≤ 1000 ∧ ∀ l, H l = none → Q (.ref l) (upd H l (.lst ((skips es i).map fun k => .int ((k : Nat) : Int))))
theorem scSkL : FnScope ["elder", "i"] ["elder", "i"] (defScope sSkL) := ⟨rfl, rfl, rfl, by decide +kernel, rfl, by decide +kernel, by decide +kernel⟩
theorem nd_kei : (["k", "elder", "i"] : List Str).Nodup := by decide +kernel
theorem ok_skl {f : Addr} {fd : FuncData} (F : Fun K "skip_lengths" "skip_lengths" sSkL f fd) (mlen : mg "len" = none) (mrange : mg "range" = none) : FnOk P w K mg base CX0 1 f fd ["elder", "i"] (spSkL K) := by
  refine F.ok scSkL (fun vs H Q E h => ?_) (fun cdv A outer s H vs Q E hr h => ?_)
  · obtain ⟨p, es, i, rfl, _⟩ := h
    rfl
  · obtain ⟨p, es, i, rfl, hp, hi, hel, q⟩ := h
    refine ⟨_, pss_cons (ps_if (pt_cmpR op_eq (pv 1) pe_int (nomark _)) (pss_one (ps_ret (pe_lst pa_nil))) pss_nil)
      (pss_one (ps_ret (pe_comp (Nc := ["k", "elder", "i"]) (mp := [none, some 0, some 1]) rfl (CompOk.of (by rfl)) (pi_range2 (by rfl) mrange (pa_cons pe_int (pa_cons (pe_op op_add (pe_op op_sub (pe_callB call_len_seq (by rfl) mlen PySem.boot_len (pa_cons (pv 0) pa_nil)) (pv 1)) pe_int) pa_nil)))
        (fun cl C s H fp => ⟨pg_name (i := 0) nd_kei rfl (Or.inl rfl), pts_one (pt_cmpR op_eq (pe_ix (ix_tupK (K := K) rfl) (pv 1) (pe_op op_sub (pe_op op_add (pv 2) (pv 0)) pe_int) (fun _ _ => rfl)) (pe_ix (ix_tupK (K := K) rfl) (pv 1) (pe_op op_sub (pv 2) pe_int) (fun _ _ => rfl)) (nomark _)), pv 0⟩)))), ?_⟩
    have hlen : (es.map V.str).length = es.length := List.length_map ..
    refine ⟨_, rfl, rfl, _, rfl, ?_⟩
    by_cases h0 : i = 0
    · refine iteY (by rw [h0]; rfl) ⟨Nat.zero_le _, fun l hl => ?_⟩
      have := q l hl
      unfold skips at this
      rw [if_pos h0] at this
      exact this
    refine iteK (fun e => h0 (by injection e with e; omega)) ?_
    refine ⟨_, rfl, p, _, rfl, .inr hp, _, rfl, _, _, rfl, rfl, _, _, rfl, rfl, 1, _, rfl, ⟨by decide, by decide, by rw [hlen]; omega, by rw [hlen]; omega⟩, ?_⟩
    have en : ((((es.map V.str).length : Int) - ((i : Nat) : Int) + 1) - 1).toNat = es.length - i := by rw [hlen]; omega
    rw [en]
    refine comp_pure (as := List.range (es.length - i)) (v := fun k => .int (1 + ((k : Nat) : Int))) (fun k => decide (gt es (i + k) = gt es (i - 1))) (fun k => .int (1 + ((k : Nat) : Int))) (src_range 1 (es.length - i) H) (by rw [List.length_range]; exact few (by omega)) (fun k hk K' hK' => ?_) (fun k hk _ K' hK' => ⟨_, rfl, hK'⟩) (fun D hD => ?_)
    · have hk' := List.mem_range.mp hk
      have e1 : ((i : Nat) : Int) + (1 + ((k : Nat) : Int)) - 1 = ((i + k : Nat) : Int) := by omega
      have e2 : ((i : Nat) : Int) - 1 = ((i - 1 : Nat) : Int) := by omega
      refine ⟨_, rfl, _, rfl, _, rfl, _, _, rfl, rfl, _, _, rfl, rfl, p, _, _, _, rfl, rfl, hp, (by rw [e1]; exact at_w (by omega)), _, rfl, _, rfl, _, _, rfl, rfl, p, _, _, _, rfl, rfl, hp, (by rw [e2]; exact at_w (by omega)), rfl, _, rfl, ?_⟩
      rw [str_dec]
      exact hK'
    · have := q D hD
      unfold skips at this
      rw [if_neg h0, List.map_map] at this
      have ef : (fun k : Nat => V.int (1 + ((k : Nat) : Int))) = ((fun k : Nat => V.int ((k : Nat) : Int)) ∘ fun x => x + 1) := by
        funext k
        show V.int (1 + ((k : Nat) : Int)) = V.int (((k + 1 : Nat)) : Int)
        congr 1; omega
      rw [ef]
      exact this
def spWays (K : PySem.W.Frag) : Sp := fun vs H Q _ => ∃ (p q : Addr) (es cs : List Str) (i j : Nat), vs = [.ref p, .ref q, .int (i : Nat), .int (j : Nat)] ∧ SqT K H p (es.map V.str) ∧ SqT K H q (cs.map V.str) ∧ i ≤ es.length ∧ j ≤ cs.length ∧ es.length ≤ 1000 ∧
  ∀ (H' : Hp) (l : Addr) (as : List Addr), Same H H' → H' l = some (.lst (as.map V.ref)) → WaysAt H' as (ways es cs i j) → Q (.ref l) H'
theorem scWays : FnScope ["elder", "copy", "i", "j", "ways", "step"] ["elder", "copy", "i", "j"] (defScope sWays) := ⟨rfl, rfl, rfl, by decide +kernel, rfl, by decide +kernel, by decide +kernel⟩
theorem nd_kij : (["k", "i", "j"] : List Str).Nodup := by decide +kernel
theorem ok_ways {f gS gK : Addr} {fd dS dK : FuncData} (F : Fun K "knot_ways" "knot_ways" sWays f fd) (DS : Dfn K mg "swap_writes" sSwW gS dS ["elder", "copy", "i", "j"]) (DK : Dfn K mg "skip_lengths" sSkL gK dK ["elder", "i"]) (mlen : mg "len" = none) (mrange : mg "range" = none) : FnOk P w K mg base CX0 2 f fd ["elder", "copy", "i", "j"] (spWays K) := by
  have GS : FnOk P w K mg base CX0 1 gS dS ["elder", "copy", "i", "j"] (spSwW K) := ok_sww DS.fn mlen
  have GK : FnOk P w K mg base CX0 1 gK dK ["elder", "i"] (spSkL K) := ok_skl DK.fn mlen mrange
  refine F.ok scWays (fun vs H Q E h => ?_) (fun cdv A outer s H vs Q E hr h => ?_)
  · obtain ⟨p, q, es, cs, i, j, rfl, _⟩ := h
    rfl
  · obtain ⟨p, q0, es, cs, i, j, rfl, hp, hc, hi, hj, hel, q⟩ := h
    refine ⟨_, pss_cons (ps_set (i := 4) scWays.nd rfl (Or.inl rfl) (pe_lst pa_nil))
      (pss_cons (ps_mid (ps_if (pw_and (pt_cmpR op_lt (pv 2) (pe_callB call_len_seq (by rfl) mlen PySem.boot_len (pa_cons (pv 0) pa_nil)) (nomark _)) (pw_and1 (pt_cmpR op_lt (pv 3) (pe_callB call_len_seq (by rfl) mlen PySem.boot_len (pa_cons (pv 1) pa_nil)) (nomark _)))).pt
        (pss_cons (ps_set (i := 5) scWays.nd rfl (Or.inl rfl) (pe_ifExp (pt_cmpR op_eq (pe_ix ix_tup (pv 0) (pv 2) (fun _ _ => rfl)) (pe_ix ix_tup (pv 1) (pv 3) (fun _ _ => rfl)) (nomark _)) (pe_tup (pa_cons pe_str pa_nil)) (pe_tup (pa_cons pe_str (pa_cons (pe_ix ix_tup (pv 1) (pv 3) (fun _ _ => rfl)) pa_nil)))))
        (pss_one (ps_expr (pe_bm PySem.F.plainAttrs_list PySem.F.slot_list_append PySem.F.type_list_append mt_append (pv 4) (pa_cons (pe_tup (pa_cons (pv 5) (pa_cons (pe_op op_add (pv 2) pe_int) (pa_cons (pe_op op_add (pv 3) pe_int) pa_nil)))) pa_nil))))) pss_nil))
      (pss_cons (ps_mid (ps_if (pt_cmpR op_lt (pv 2) (pe_callB call_len_seq (by rfl) mlen PySem.boot_len (pa_cons (pv 0) pa_nil)) (nomark _)) (pss_one (ps_expr (pe_bm PySem.F.plainAttrs_list PySem.F.slot_list_append PySem.F.type_list_append mt_append (pv 4) (pa_cons (pe_tup (pa_cons (pe_tup (pa_cons pe_str pa_nil)) (pa_cons (pe_op op_add (pv 2) pe_int) (pa_cons (pv 3) pa_nil)))) pa_nil)))) pss_nil))
      (pss_cons (ps_mid (ps_if (pt_cmpR op_lt (pv 3) (pe_callB call_len_seq (by rfl) mlen PySem.boot_len (pa_cons (pv 1) pa_nil)) (nomark _)) (pss_one (ps_expr (pe_bm PySem.F.plainAttrs_list PySem.F.slot_list_append PySem.F.type_list_append mt_append (pv 4) (pa_cons (pe_tup (pa_cons (pe_tup (pa_cons pe_str (pa_cons (pe_ix ix_tup (pv 1) (pv 3) (fun _ _ => rfl)) pa_nil))) (pa_cons (pv 2) (pa_cons (pe_op op_add (pv 3) pe_int) pa_nil)))) pa_nil)))) pss_nil))
      (pss_cons (ps_mid (ps_if (pw_and (pt_chain op_lt op_lt pe_int (pv 3) (pe_callB call_len_seq (by rfl) mlen PySem.boot_len (pa_cons (pv 1) pa_nil))) (pw_and1 (pt_cmpR op_eq (pe_ix ix_tup (pv 1) (pv 3) (fun _ _ => rfl)) (pe_ix ix_tup (pv 1) (pe_op op_sub (pv 3) pe_int) (fun _ _ => rfl)) (nomark _)))).pt
        (pss_one (ps_expr (pe_bm PySem.F.plainAttrs_list PySem.F.slot_list_append PySem.F.type_list_append mt_append (pv 4) (pa_cons (pe_tup (pa_cons (pe_tup (pa_cons pe_str pa_nil)) (pa_cons (pv 2) (pa_cons (pe_op op_add (pv 3) pe_int) pa_nil)))) pa_nil)))) pss_nil))
      (pss_cons (ps_mid (ps_if (pt_val (pe_call GS hr (by rfl) DS.at_ DS.fn.kp DS.bn .nil pass0 (pa_cons (pv 0) (pa_cons (pv 1) (pa_cons (pv 2) (pa_cons (pv 3) pa_nil)))))) (pss_one (ps_expr (pe_bm PySem.F.plainAttrs_list PySem.F.slot_list_append PySem.F.type_list_append mt_append (pv 4) (pa_cons (pe_tup (pa_cons (pe_tup (pa_cons pe_str pa_nil)) (pa_cons (pe_op op_add (pv 2) pe_int) (pa_cons (pe_op op_add (pv 3) pe_int) pa_nil)))) pa_nil)))) pss_nil))
      (pss_cons (ps_expr (pe_bm PySem.F.plainAttrs_list PySem.F.slot_list_extend PySem.F.type_list_extend mt_extend (pv 4) (pa_cons (pe_comp (Nc := ["k", "i", "j"]) (mp := [none, some 2, some 3]) rfl (CompOk.of (by rfl)) (pi_list (pe_call GK hr (by rfl) DK.at_ DK.fn.kp DK.bn .nil pass0 (pa_cons (pv 0) (pa_cons (pv 2) pa_nil))))
        (fun cl C s H fp => ⟨pg_name (i := 0) nd_kij rfl (Or.inl rfl), pts_nil, pe_tup (pa_cons (pe_tup (pa_cons pe_str (pa_cons (pv 0) pa_nil))) (pa_cons (pe_op op_add (pv 1) (pv 0)) (pa_cons (pv 2) pa_nil)))⟩)) pa_nil)))
      (pss_one (ps_ret (pv 4))))))))), ?_⟩
    have z1 : (1 : Nat) ≤ sizeLine := few (by omega)
    have z2 : (2 : Nat) ≤ sizeLine := few (by omega)
    have z3 : (3 : Nat) ≤ sizeLine := few (by omega)
    have hle : (es.map V.str).length = es.length := List.length_map ..
    have hlc : (cs.map V.str).length = cs.length := List.length_map ..
    have ei1 : ((i : Nat) : Int) + 1 = ((i + 1 : Nat) : Int) := by omega
    have ej1 : ((j : Nat) : Int) + 1 = ((j + 1 : Nat) : Int) := by omega
    have ei2 : ((i : Nat) : Int) + 2 = ((i + 2 : Nat) : Int) := by omega
    have ej2 : ((j : Nat) : Int) + 2 = ((j + 2 : Nat) : Int) := by omega
    have dle : decide (((i : Nat) : Int) < ((es.map V.str).length : Int)) = decide (i < es.length) := by rw [hle]; exact decide_eq_decide.mpr (by omega)
    have dlc : decide (((j : Nat) : Int) < ((cs.map V.str).length : Int)) = decide (j < cs.length) := by rw [hlc]; exact decide_eq_decide.mpr (by omega)
    refine ⟨Nat.zero_le _, fun l hl => ?_⟩
    refine ⟨fun σ' H' => ∃ (v5 : Option V) (as : List Addr), σ' = [some (.ref p), some (.ref q0), some (.int (i : Nat)), some (.int (j : Nat)), some (.ref l), v5] ∧ H' l = some (.lst (as.map V.ref)) ∧ Same H H' ∧ WaysAt H' as (w1 es cs i j) ∧ as.length ≤ 1, ?_, ?_⟩
    · refine ⟨_, rfl, _, rfl, p, _, rfl, .inr (sameT (same_upd hl) hp), _, _, rfl, rfl, _, rfl, ?_⟩
      rw [dle]
      refine ite2 (fun h1 => ?_) (fun h1 => iteF ⟨none, [], rfl, upd_same, same_upd hl, ?_, Nat.zero_le _⟩)
      · have h1 := of_decide_eq_true h1
        refine ⟨_, rfl, _, rfl, q0, _, rfl, .inr (sameT (same_upd hl) hc), _, _, rfl, rfl, _, rfl, ?_⟩
        rw [dlc]
        refine ite2 (fun h2 => ?_) (fun h2 => ⟨none, [], rfl, upd_same, same_upd hl, ?_, Nat.zero_le _⟩)
        · have h2 := of_decide_eq_true h2
          have ew : w1 es cs i j = [((if gt es i = gt cs j then .keep else .turn (gt cs j)), i + 1, j + 1)] := by unfold w1; rw [if_pos ⟨h1, h2⟩]
          rw [ew]
          have S0 := same_upd (o := .lst []) hl
          have l0 : upd H l (.lst []) l = some (.lst (([] : List Addr).map V.ref)) := upd_same
          refine ⟨_, rfl, _, rfl, p, _, _, _, rfl, rfl, sameT S0 hp, at_w h1, _, rfl, _, rfl, q0, _, _, _, rfl, rfl, sameT S0 hc, at_w h2, rfl, _, rfl, ?_⟩
          have fin : ∀ st : Sk, (if gt es i = gt cs j then Sk.keep else .turn (gt cs j)) = st → ∀ t, upd H l (.lst []) t = none → ∀ a, upd (upd H l (.lst [])) t (.tup (stepV st)) a = none →
              upd (upd (upd H l (.lst [])) t (.tup (stepV st))) a (.tup (wayV t (st, i + 1, j + 1))) l = some (.lst (([] : List Addr).map V.ref)) ∧
              ∃ (v5 : Option V) (as : List Addr), [some (V.ref p), some (V.ref q0), some (V.int (i : Nat)), some (V.int (j : Nat)), some (V.ref l), some (V.ref t)] = [some (.ref p), some (.ref q0), some (.int (i : Nat)), some (.int (j : Nat)), some (.ref l), v5] ∧
                upd (upd (upd (upd H l (.lst [])) t (.tup (stepV st))) a (.tup (wayV t (st, i + 1, j + 1)))) l (.lst (([] : List Addr).map V.ref ++ [.ref a])) l = some (.lst (as.map V.ref)) ∧
                Same H (upd (upd (upd (upd H l (.lst [])) t (.tup (stepV st))) a (.tup (wayV t (st, i + 1, j + 1)))) l (.lst (([] : List Addr).map V.ref ++ [.ref a]))) ∧
                WaysAt (upd (upd (upd (upd H l (.lst [])) t (.tup (stepV st))) a (.tup (wayV t (st, i + 1, j + 1)))) l (.lst (([] : List Addr).map V.ref ++ [.ref a]))) as [((if gt es i = gt cs j then .keep else .turn (gt cs j)), i + 1, j + 1)] ∧ as.length ≤ 1 := fun st e t ht a ha => by
            obtain ⟨b1, b2, b3, b4⟩ := way_add (x := (st, i + 1, j + 1)) S0 hl l0 WaysAt.nil ht ha
            exact ⟨b1, _, [a], rfl, b2, b3, by rw [e]; exact b4, Nat.le_refl _⟩
          by_cases he : gt es i = gt cs j
          · refine iteY (by rw [he]) ⟨z1, fun t ht => ?_⟩
            have k1 := same_upd (o := .tup (stepV .keep)) ht _ _ l0
            refine ⟨_, rfl, .inl ⟨rfl, _, SqL.of k1⟩, _, rfl, _, rfl, _, _, rfl, rfl, _, rfl, _, _, rfl, rfl, z3, fun a ha => ?_⟩
            obtain ⟨c1, c2⟩ := fin .keep (by rw [if_pos he]) t ht a ha
            exact ⟨l, _, _, rfl, rfl, c1, fewer (by show 0 ≤ _; omega), c2⟩
          · refine iteK (fun e => he (by injection e)) ⟨_, rfl, _, rfl, q0, _, _, _, rfl, rfl, sameT S0 hc, at_w h2, z2, fun t ht => ?_⟩
            have k1 := same_upd (o := .tup (stepV (.turn (gt cs j)))) ht _ _ l0
            refine ⟨_, rfl, .inl ⟨rfl, _, SqL.of k1⟩, _, rfl, _, rfl, _, _, rfl, rfl, _, rfl, _, _, rfl, rfl, z3, fun a ha => ?_⟩
            obtain ⟨c1, c2⟩ := fin (.turn (gt cs j)) (by rw [if_neg he]) t ht a ha
            exact ⟨l, _, _, rfl, rfl, c1, fewer (by show 0 ≤ _; omega), c2⟩
        · have h2 : ¬ j < cs.length := fun c => h2 (decide_eq_true c)
          unfold w1
          rw [if_neg (by omega)]
          exact WaysAt.nil
      · have h1 : ¬ i < es.length := fun c => h1 (decide_eq_true c)
        unfold w1
        rw [if_neg (by omega)]
        exact WaysAt.nil
    rintro σ' H1 ⟨v5, as1, rfl, k1, S1, W1, L1⟩
    -- one way more, or none: the rest of the ifs
    have step : ∀ {H2 : Hp} {as : List Addr} {ws : List Way} (x : Way), H2 l = some (.lst (as.map V.ref)) → Same H H2 → WaysAt H2 as ws → ∀ t, H2 t = none → ∀ a, upd H2 t (.tup (stepV x.1)) a = none →
        upd (upd H2 t (.tup (stepV x.1))) a (.tup (wayV t x)) l = some (.lst (as.map V.ref)) ∧ upd (upd (upd H2 t (.tup (stepV x.1))) a (.tup (wayV t x))) l (.lst (as.map V.ref ++ [.ref a])) l = some (.lst ((as ++ [a]).map V.ref)) ∧
        Same H (upd (upd (upd H2 t (.tup (stepV x.1))) a (.tup (wayV t x))) l (.lst (as.map V.ref ++ [.ref a]))) ∧ WaysAt (upd (upd (upd H2 t (.tup (stepV x.1))) a (.tup (wayV t x))) l (.lst (as.map V.ref ++ [.ref a]))) (as ++ [a]) (ws ++ [x]) := fun x k S W t ht a ha => way_add S hl k W ht ha
    -- lose
    refine ⟨fun σ' H' => ∃ (v5 : Option V) (as : List Addr), σ' = [some (.ref p), some (.ref q0), some (.int (i : Nat)), some (.int (j : Nat)), some (.ref l), v5] ∧ H' l = some (.lst (as.map V.ref)) ∧ Same H H' ∧ WaysAt H' as (w1 es cs i j ++ w2 es i j) ∧ as.length ≤ 2, ?_, ?_⟩
    · refine ⟨_, rfl, _, rfl, p, _, rfl, .inr (sameT S1 hp), _, _, rfl, rfl, _, rfl, ?_⟩
      rw [dle]
      refine ite2 (fun h => ?_) (fun h => ⟨v5, as1, rfl, k1, S1, ?_, by omega⟩)
      · have h := of_decide_eq_true h
        refine ⟨_, rfl, .inl ⟨rfl, _, SqL.of k1⟩, z1, fun t ht => ?_⟩
        refine ⟨_, rfl, _, _, rfl, rfl, _, rfl, z3, fun a ha => ?_⟩
        obtain ⟨c1, c2, c3, c4⟩ := step (.lose, i + 1, j) k1 S1 W1 t ht a ha
        refine ⟨l, _, _, rfl, rfl, c1, (by rw [List.length_map]; exact fewer (by omega)), v5, as1 ++ [a], rfl, c2, c3, ?_, by rw [List.length_append]; show _ + 1 ≤ _; omega⟩
        unfold w2
        rw [if_pos h]
        exact c4
      · have h : ¬ i < es.length := fun c => h (decide_eq_true c)
        unfold w2
        rw [if_neg h, List.append_nil]
        exact W1
    rintro σ' H2 ⟨v5, as2, rfl, k2, S2, W2, L2⟩
    -- add
    refine ⟨fun σ' H' => ∃ (v5 : Option V) (as : List Addr), σ' = [some (.ref p), some (.ref q0), some (.int (i : Nat)), some (.int (j : Nat)), some (.ref l), v5] ∧ H' l = some (.lst (as.map V.ref)) ∧ Same H H' ∧ WaysAt H' as (w1 es cs i j ++ w2 es i j ++ w3 cs i j) ∧ as.length ≤ 3, ?_, ?_⟩
    · refine ⟨_, rfl, _, rfl, q0, _, rfl, .inr (sameT S2 hc), _, _, rfl, rfl, _, rfl, ?_⟩
      rw [dlc]
      refine ite2 (fun h => ?_) (fun h => ⟨v5, as2, rfl, k2, S2, ?_, by omega⟩)
      · have h := of_decide_eq_true h
        refine ⟨_, rfl, .inl ⟨rfl, _, SqL.of k2⟩, _, rfl, _, rfl, q0, _, _, _, rfl, rfl, sameT S2 hc, at_w h, z2, fun t ht => ?_⟩
        refine ⟨_, rfl, _, rfl, _, _, rfl, rfl, z3, fun a ha => ?_⟩
        obtain ⟨c1, c2, c3, c4⟩ := step (.add (gt cs j), i, j + 1) k2 S2 W2 t ht a ha
        refine ⟨l, _, _, rfl, rfl, c1, (by rw [List.length_map]; exact fewer (by omega)), v5, as2 ++ [a], rfl, c2, c3, ?_, by rw [List.length_append]; show _ + 1 ≤ _; omega⟩
        unfold w3
        rw [if_pos h]
        exact c4
      · have h : ¬ j < cs.length := fun c => h (decide_eq_true c)
        unfold w3
        rw [if_neg h, List.append_nil]
        exact W2
    rintro σ' H3 ⟨v5, as3, rfl, k3, S3, W3, L3⟩
    -- twice
    refine ⟨fun σ' H' => ∃ (v5 : Option V) (as : List Addr), σ' = [some (.ref p), some (.ref q0), some (.int (i : Nat)), some (.int (j : Nat)), some (.ref l), v5] ∧ H' l = some (.lst (as.map V.ref)) ∧ Same H H' ∧ WaysAt H' as (w1 es cs i j ++ w2 es i j ++ w3 cs i j ++ w4 cs i j) ∧ as.length ≤ 4, ?_, ?_⟩
    · have none4 : ¬ (0 < j ∧ j < cs.length ∧ gt cs j = gt cs (j - 1)) → ∃ (v5' : Option V) (as : List Addr), [some (V.ref p), some (V.ref q0), some (V.int (i : Nat)), some (V.int (j : Nat)), some (V.ref l), v5] = [some (.ref p), some (.ref q0), some (.int (i : Nat)), some (.int (j : Nat)), some (.ref l), v5'] ∧ H3 l = some (.lst (as.map V.ref)) ∧ Same H H3 ∧ WaysAt H3 as (w1 es cs i j ++ w2 es i j ++ w3 cs i j ++ w4 cs i j) ∧ as.length ≤ 4 := fun h => by
        refine ⟨v5, as3, rfl, k3, S3, ?_, by omega⟩
        unfold w4
        rw [if_neg h, List.append_nil]
        exact W3
      refine ⟨_, rfl, _, _, rfl, rfl, _, rfl, ?_⟩
      refine ite2 (fun h0 => ?_) (fun h0 => ?_)
      · have h0 := of_decide_eq_true h0
        refine ⟨_, rfl, q0, _, rfl, .inr (sameT S3 hc), _, _, rfl, rfl, _, rfl, ?_⟩
        rw [dlc]
        refine ite2 (fun h1 => ?_) (fun h1 => iteF (none4 fun c => h1 (decide_eq_true c.2.1)))
        have h1 := of_decide_eq_true h1
        have e2 : ((j : Nat) : Int) - 1 = ((j - 1 : Nat) : Int) := by omega
        refine ⟨_, rfl, _, rfl, q0, _, _, _, rfl, rfl, sameT S3 hc, at_w h1, _, rfl, _, rfl, _, _, rfl, rfl, q0, _, _, _, rfl, rfl, sameT S3 hc, (by rw [e2]; exact at_w (by omega)), rfl, _, rfl, ?_⟩
        refine ite2 (fun h2 => ?_) (fun h2 => none4 fun c => h2 (decide_eq_true (by rw [c.2.2])))
        have h2 := of_decide_eq_true h2
        injection h2 with h2
        refine ⟨_, rfl, .inl ⟨rfl, _, SqL.of k3⟩, z1, fun t ht => ?_⟩
        refine ⟨_, rfl, _, rfl, _, _, rfl, rfl, z3, fun a ha => ?_⟩
        obtain ⟨c1, c2, c3, c4⟩ := step (.twice, i, j + 1) k3 S3 W3 t ht a ha
        refine ⟨l, _, _, rfl, rfl, c1, (by rw [List.length_map]; exact fewer (by omega)), v5, as3 ++ [a], rfl, c2, c3, ?_, by rw [List.length_append]; show _ + 1 ≤ _; omega⟩
        unfold w4
        rw [if_pos ⟨by omega, h1, h2⟩]
        exact c4
      · have h0 : ¬ ((0 : Int) < ((j : Nat) : Int)) := fun c => h0 (decide_eq_true c)
        exact ⟨_, rfl, iteF (iteF (none4 fun c => h0 (by omega)))⟩
    rintro σ' H4 ⟨v5, as4, rfl, k4, S4, W4, L4⟩
    -- swap
    refine ⟨fun σ' H' => ∃ (v5 : Option V) (as : List Addr), σ' = [some (.ref p), some (.ref q0), some (.int (i : Nat)), some (.int (j : Nat)), some (.ref l), v5] ∧ H' l = some (.lst (as.map V.ref)) ∧ Same H H' ∧ WaysAt H' as (w1 es cs i j ++ w2 es i j ++ w3 cs i j ++ w4 cs i j ++ w5 es cs i j) ∧ as.length ≤ 5, ?_, ?_⟩
    · refine ⟨_, rfl, _, rfl, _, rfl, _, rfl, p, q0, es, cs, i, j, rfl, sameT S4 hp, sameT S4 hc, _, rfl, ?_⟩
      cases hsw : swapW es cs i j with
      | false =>
        refine iteF ⟨v5, as4, rfl, k4, S4, ?_, by omega⟩
        unfold w5
        rw [hsw, if_neg Bool.false_ne_true, List.append_nil]
        exact W4
      | true =>
        refine iteT ⟨_, rfl, .inl ⟨rfl, _, SqL.of k4⟩, z1, fun t ht => ?_⟩
        refine ⟨_, rfl, _, _, rfl, rfl, _, rfl, _, _, rfl, rfl, z3, fun a ha => ?_⟩
        obtain ⟨c1, c2, c3, c4⟩ := step (.swap, i + 2, j + 2) k4 S4 W4 t ht a ha
        refine ⟨l, _, _, rfl, rfl, c1, (by rw [List.length_map]; exact fewer (by omega)), v5, as4 ++ [a], rfl, c2, c3, ?_, by rw [List.length_append]; show _ + 1 ≤ _; omega⟩
        unfold w5
        rw [hsw, if_pos rfl]
        exact c4
    rintro σ' H5 ⟨v5, as5, rfl, k5, S5, W5, L5⟩
    -- skips
    have hskl : (skips es i).length ≤ 1000 := by
      unfold skips
      split
      · exact Nat.zero_le _
      · rw [List.length_map]
        exact Nat.le_trans (List.length_filter_le _ _) (by rw [List.length_range]; omega)
    refine ⟨_, rfl, .inl ⟨rfl, _, SqL.of k5⟩, _, rfl, _, rfl, p, es, i, rfl, sameT S5 hp, hi, hel, fun ls hls => ?_⟩
    have S6 := same_upd (o := .lst ((skips es i).map fun k => .int ((k : Nat) : Int))) hls
    have s6 : upd H5 ls (.lst ((skips es i).map fun k => .int ((k : Nat) : Int))) ls = some (.lst ((skips es i).map fun k => .int ((k : Nat) : Int))) := upd_same
    generalize hH6 : upd H5 ls (.lst ((skips es i).map fun k => .int ((k : Nat) : Int))) = H6 at S6 s6
    refine ⟨ls, rfl, ⟨_, SqL.of s6⟩, comp_grow (as := skips es i) (v := fun k => .int ((k : Nat) : Int)) (fun n acc H' => ∃ bs : List Addr, acc = bs.map V.ref ∧ WaysAt H' bs ((w6 es i j).take n) ∧ bs.length = n ∧ Same H6 H') (fun n acc H' _ ⟨_, _, _, _, S⟩ => src_list (SqL.of (S _ _ s6))) (few (by omega))
      ⟨[], rfl, WaysAt.nil, rfl, Same.refl _⟩ (fun n acc H' ⟨bs, e, _, hl, _⟩ => by rw [e, List.length_map, hl]) ?_ ?_⟩
    · rintro n k acc H' hk ⟨bs, rfl, hW, hbl, S⟩ kk hkk
      refine ⟨_, rfl, z2, fun t ht => ?_⟩
      refine ⟨_, rfl, _, rfl, _, _, rfl, rfl, _, rfl, z3, fun a ha => ?_⟩
      have T1 := same_upd (o := .tup (stepV (.skip k))) ht
      have ek : ((i : Nat) : Int) + ((k : Nat) : Int) = ((i + k : Nat) : Int) := by omega
      have T2 := same_upd (o := .tup (wayV t (.skip k, i + k, j))) ha
      refine hkk _ _ ⟨bs ++ [a], by rw [List.map_append]; rfl, ?_, by rw [List.length_append, hbl]; rfl, (S.trans T1).trans T2⟩
      have hnl : n < (w6 es i j).length := by unfold w6; rw [List.length_map]; exact (List.getElem?_eq_some_iff.mp hk).1
      have hx : (w6 es i j)[n]? = some (.skip k, i + k, j) := by unfold w6; rw [List.getElem?_map, hk]; rfl
      rw [List.take_succ_eq_append_getElem hnl, (List.getElem?_eq_some_iff.mp hx).2]
      exact ((hW.mono T1).mono T2).app (WaysAt.one (x := (.skip k, i + k, j)) upd_same (T2 _ _ upd_same))
    · rintro acc H7 ⟨bs, rfl, hW, hbl, S7⟩ D hD
      have S8 := same_upd (o := .lst (bs.map V.ref)) hD
      have k8 := S8 _ _ (S7 _ _ (S6 _ _ k5))
      have w8 : (w6 es i j).take (skips es i).length = w6 es i j := by
        have : (w6 es i j).length = (skips es i).length := by unfold w6; rw [List.length_map]
        rw [← this, List.take_length]
      rw [w8] at hW
      refine ⟨l, D, _, _, rfl, rfl, k8, upd_same, (by rw [List.length_map, List.length_map, hbl]; exact few (by omega)), ?_⟩
      refine ⟨_, rfl, q _ l (as5 ++ bs) (same_to ((((S5.trans S6).trans S7)).trans S8) hl) (by rw [upd_same, List.map_append]) ?_⟩
      unfold ways
      exact ((((W5.mono S6).mono S7).mono S8).app (hW.mono S8)).set k8
def spAlike : Sp := fun vs H Q _ => ∃ a b : Str, vs = [.str a, .str b] ∧ a.length ≤ sizeLine ∧ b.length ≤ sizeLine ∧ Q (.bl (alikeB a.cps.toList b.cps.toList)) H
theorem scLooks : FnScope ["one", "two", "unlike"] ["one", "two"] (defScope sLooks) := ⟨rfl, rfl, rfl, by decide +kernel, rfl, by decide +kernel, by decide +kernel⟩
theorem nd_Looks : (["place", "one", "two"] : List Str).Nodup := by decide +kernel
theorem ok_Looks {f : Addr} {fd : FuncData} (F : Fun K "looks_alike" "looks_alike" sLooks f fd) (mlen : mg "len" = none) (mrange : mg "range" = none) : FnOk P w K mg base CX0 1 f fd ["one", "two"] spAlike := by
  refine Fun.okR F scLooks (fun vs H Q E h => ?_) (fun cdv A outer s H vs Q Q2 E hr h hq => ?_)
  · obtain ⟨a, b, rfl, _⟩ := h
    rfl
  · obtain ⟨a, b, rfl, ha, hb, q⟩ := h
    refine ⟨_, pss_cons (ps_if (pt_cmpR op_ne (pe_callB call_len_str (by rfl) mlen PySem.boot_len (pa_cons (pv 0) pa_nil)) (pe_callB call_len_str (by rfl) mlen PySem.boot_len (pa_cons (pv 1) pa_nil)) (nomark _)) (pss_one (ps_ret pe_bl)) pss_nil)
      (pss_cons (ps_setC (i := 2) (Nc := ["place", "one", "two"]) (mp := [none, some 0, some 1]) rfl scLooks.nd rfl rfl (CompOk.of (by rfl)) (pi_range1 (by rfl) mrange (pa_cons (pe_callB call_len_str (by rfl) mlen PySem.boot_len (pa_cons (pv 0) pa_nil)) pa_nil))
        (fun cl C s H fp => ⟨pg_name (i := 0) nd_Looks rfl (Or.inl rfl), pts_one (pt_cmpR op_ne (pe_ix ix_str (pv 1) (pv 0) (fun _ _ => rfl)) (pe_ix ix_str (pv 2) (pv 0) (fun _ _ => rfl)) (nomark _)), pv 0⟩))
      (pss_one (ps_ret (pe_cmpR op_eq (pe_callB call_len_seq (by rfl) mlen PySem.boot_len (pa_cons (pv 2) pa_nil)) pe_int (nomark _))))), ?_⟩
    refine ⟨_, rfl, a, rfl, ha, _, rfl, b, rfl, hb, rfl, _, rfl, ?_⟩
    by_cases hl : a.length = b.length
    · refine iteNS (by rw [hl]) ?_
      refine ⟨_, rfl, a, rfl, ha, (a.length : Int), rfl, (by omega), (by have := szl; omega), ?_⟩
      rw [Int.toNat_natCast]
      refine comp_pure (as := List.range a.length) (v := fun i => .int (0 + (i : Nat))) (fun i => !decide (a.cps.toList[i]? = b.cps.toList[i]?)) (fun i => .int (0 + (i : Nat))) (src_range 0 a.length H) (by rw [List.length_range]; exact ha) (fun i hi k hk => ?_) (fun i hi _ k hk => ?_) (fun D hD => ?_)
      · have hi' := List.mem_range.mp hi
        have ea : a.cps.toList[i]? = some a.cps.toList[i] := List.getElem?_eq_getElem (by rw [clen]; exact hi')
        have eb : b.cps.toList[i]? = some b.cps.toList[i] := List.getElem?_eq_getElem (by rw [clen, ← hl]; exact hi')
        have ei : (0 : Int) + ((i : Nat) : Int) = ((i : Nat) : Int) := by omega
        refine ⟨_, rfl, _, rfl, a, _, a.cps.toList[i], rfl, rfl, ha, (by rw [ei]; exact atI_nat ea), _, rfl, _, rfl, b, _, b.cps.toList[i], rfl, rfl, hb, (by rw [ei]; exact atI_nat eb), rfl, _, rfl, ?_⟩
        have e : (!decide (V.str ⟨#[a.cps.toList[i]]⟩ = V.str ⟨#[b.cps.toList[i]]⟩)) = (!decide (a.cps.toList[i]? = b.cps.toList[i]?)) := by
          rw [ea, eb]
          congr 1
          exact decide_eq_decide.mpr ⟨fun z => by injection z with z; injection z with z; simpa using z, fun z => by rw [Option.some.inj z]⟩
        rw [e]; exact hk
      · exact ⟨_, rfl, hk⟩
      · refine ⟨_, rfl, D, _, rfl, .inl (SqL.of upd_same), rfl, hq _ _ (Rst.same (same_upd hD) ?_)⟩
        rw [List.length_map]
        have e : decide (V.int (((List.range a.length).filter fun i => !decide (a.cps.toList[i]? = b.cps.toList[i]?)).length : Nat) = V.int 1) = alikeB a.cps.toList b.cps.toList := by
          unfold alikeB placesB
          rw [if_pos (by rw [clen, clen]; exact hl), clen]
          exact decide_eq_decide.mpr ⟨fun z => by injection z with z; omega, fun z => by rw [z]; rfl⟩
        rw [e]; exact q
    · refine ite2 (fun _ => ?_) (fun h => ?_)
      · refine hq _ _ (Rst.same (Same.refl H) ?_)
        have e : alikeB a.cps.toList b.cps.toList = false := by
          unfold alikeB
          rw [if_neg (by rw [clen, clen]; exact hl)]
        rw [← e]; exact q
      · exfalso
        refine h ?_
        rw [decide_eq_false (fun z => hl (by injection z with z; omega))]; rfl
structure Places (w : World) (K : PySem.W.Frag) (a : Addr) (es : Array DictEntry) (n : Nat) : Prop where
  at_ : K.lookup a = some ⟨.type "dict", none, .dict es n, #[]⟩
  keys : PySem.W.KeysLit w.params es.toList
  p1 : ∃ t, PySem.W.nsIn K a "turn" = some (some (.int 1 t))
  p2 : ∃ t, PySem.W.nsIn K a "lose" = some (some (.int 2 t))
  p3 : ∃ t, PySem.W.nsIn K a "add" = some (some (.int 3 t))
  p4 : ∃ t, PySem.W.nsIn K a "twice" = some (some (.int 4 t))
  p5 : ∃ t, PySem.W.nsIn K a "swap" = some (some (.int 5 t))
  p6 : ∃ t, PySem.W.nsIn K a "skip" = some (some (.int 6 t))
def gI (pr : List Int) (i : Nat) : Int := (pr[i]?).getD 0
theorem at_p {pr : List Int} {i : Nat} (h : i < pr.length) : atI (pr.map V.int) (i : Int) = some (.int (gI pr i)) := atI_nat (by rw [List.getElem?_map, List.getElem?_eq_getElem h]; unfold gI; rw [List.getElem?_eq_getElem h]; rfl)
def price (es : List Str) (d : Nat) (pr : List Int) : Sk → Int
  | .keep => 0
  | .turn z => if alikeB (gt es d).cps.toList z.cps.toList = true then gI pr 0 else gI pr 1
  | .lose => gI pr 2
  | .add _ => gI pr 3
  | .twice => gI pr 4
  | .swap => gI pr 5
  | .skip _ => gI pr 6
def turnOk (es : List Str) (d : Nat) : Sk → Prop
  | .turn _ => d < es.length
  | _ => True
def spPrice (K : PySem.W.Frag) : Sp := fun vs H Q _ => ∃ (p t q : Addr) (es : List Str) (d : Nat) (st : Sk) (pr : List Int), vs = [.ref p, .int (d : Nat), .ref t, .ref q] ∧ SqT K H p (es.map V.str) ∧ (∀ z ∈ es, Good z) ∧ SqT K H t (stepV st) ∧ okS st ∧ turnOk es d st ∧ SqT K H q (pr.map V.int) ∧ pr.length = 7 ∧ Q (.int (price es d pr st)) H
theorem scPrice : FnScope ["elder", "done", "step", "prices", "kind"] ["elder", "done", "step", "prices"] (defScope sPrice) := ⟨rfl, rfl, rfl, by decide +kernel, rfl, by decide +kernel, by decide +kernel⟩
theorem ok_price {f gL aD : Addr} {fd dL : FuncData} {esD : Array DictEntry} {nD : Nat} (F : Fun K "step_price" "step_price" sPrice f fd) (DL : Dfn K mg "looks_alike" sLooks gL dL ["one", "two"]) (GL : FnOk P w K mg base CX0 1 gL dL ["one", "two"] spAlike)
    {tl : Tok} (mL : mg "LIKE" = some (.int 0 tl)) (mP : mg "PRICE_PLACES" = some (.ref aD)) (PL : Places w K aD esD nD) : FnOk P w K mg base CX0 2 f fd ["elder", "done", "step", "prices"] (spPrice K) := by
  refine Fun.okR F scPrice (fun vs H Q E h => ?_) (fun cdv A outer s H vs Q Q2 E hr h hq => ?_)
  · obtain ⟨p, t, q, es, d, st, pr, rfl, _⟩ := h
    rfl
  · obtain ⟨p, t, r, es, d, st, pr, rfl, hp, hg, ht, hok, hto, hpr, hl7, q⟩ := h
    refine ⟨_, pss_cons (ps_set (i := 4) scPrice.nd rfl (Or.inl rfl) (pe_ix ix_tup (pv 2) pe_int (fun _ _ => rfl)))
      (pss_cons (ps_if (pt_cmpR op_eq (pv 4) pe_str (nomark _)) (pss_one (ps_ret pe_int)) pss_nil)
      (pss_cons (ps_if (pw_and (pt_cmpR op_eq (pv 4) pe_str (nomark _)) (pw_and1 (pt_val (pe_call GL hr (by rfl) DL.at_ DL.fn.kp DL.bn .nil pass0 (pa_cons (pe_ix ix_tup (pv 0) (pv 1) (fun _ _ => rfl)) (pa_cons (pe_ix ix_tup (pv 2) pe_int (fun _ _ => rfl)) pa_nil)))))).pt
        (pss_one (ps_ret (pe_ix ix_tup (pv 3) (pe_glob (v := .int 0) (by rfl) mL ⟨_, rfl⟩) (fun _ _ => rfl)))) pss_nil)
      (pss_one (ps_ret (pe_ix ix_tup (pv 3) (pe_ix (ix_dictM rfl PL.at_ PL.keys) (pe_glob (v := .ref aD) (by rfl) mP rfl) (pv 4) (fun _ _ => rfl)) (fun _ _ => rfl)))))), ?_⟩
    have go : ∀ i, price es d pr st = i → Q2 (.int i) H := fun i e => hq _ _ (Rst.same (Same.refl H) (by rw [← e]; exact q))
    obtain ⟨t1, P1⟩ := PL.p1
    obtain ⟨t2, P2⟩ := PL.p2
    obtain ⟨t3, P3⟩ := PL.p3
    obtain ⟨t4, P4⟩ := PL.p4
    obtain ⟨t5, P5⟩ := PL.p5
    obtain ⟨t6, P6⟩ := PL.p6
    cases st with
    | keep => exact ⟨_, rfl, t, _, _, _, rfl, rfl, ht, rfl, _, rfl, rfl, _, rfl, iteY rfl (go _ rfl)⟩
    | turn z =>
      have hd : d < es.length := hto
      refine ⟨_, rfl, t, _, _, _, rfl, rfl, ht, rfl, ?_⟩
      refine ⟨_, rfl, rfl, _, rfl, iteK (by decide +kernel) ?_⟩
      refine ⟨_, rfl, rfl, _, rfl, iteY rfl ?_⟩
      refine ⟨_, rfl, _, rfl, p, _, _, _, rfl, rfl, hp, at_w hd, _, rfl, t, _, _, _, rfl, rfl, ht, rfl, _, _, rfl, (hg _ (gt_mem hd)).small, Good.small hok, _, rfl, ?_⟩
      cases hb : alikeB (gt es d).cps.toList z.cps.toList with
      | true => exact iteT ⟨_, rfl, r, _, _, _, rfl, rfl, hpr, at_p (i := 0) (by omega), go _ (by show (if alikeB (gt es d).cps.toList z.cps.toList = true then _ else _) = _; rw [hb]; rfl)⟩
      | false => exact iteF ⟨_, rfl, _, rfl, _, .int 1, _, rfl, rfl, P1, ⟨_, rfl⟩, r, _, _, _, rfl, rfl, hpr, at_p (i := 1) (by omega), go _ (by show (if alikeB (gt es d).cps.toList z.cps.toList = true then _ else _) = _; rw [hb]; rfl)⟩
    | lose =>
      refine ⟨_, rfl, t, _, _, _, rfl, rfl, ht, rfl, _, rfl, rfl, _, rfl, iteK (by decide +kernel) ⟨_, rfl, rfl, _, rfl, iteK (by decide +kernel) (iteF ?_)⟩⟩
      exact ⟨_, rfl, _, rfl, _, .int 2, _, rfl, rfl, P2, ⟨_, rfl⟩, r, _, _, _, rfl, rfl, hpr, at_p (i := 2) (by omega), go _ rfl⟩
    | add z =>
      refine ⟨_, rfl, t, _, _, _, rfl, rfl, ht, rfl, _, rfl, rfl, _, rfl, iteK (by decide +kernel) ⟨_, rfl, rfl, _, rfl, iteK (by decide +kernel) (iteF ?_)⟩⟩
      exact ⟨_, rfl, _, rfl, _, .int 3, _, rfl, rfl, P3, ⟨_, rfl⟩, r, _, _, _, rfl, rfl, hpr, at_p (i := 3) (by omega), go _ rfl⟩
    | twice =>
      refine ⟨_, rfl, t, _, _, _, rfl, rfl, ht, rfl, _, rfl, rfl, _, rfl, iteK (by decide +kernel) ⟨_, rfl, rfl, _, rfl, iteK (by decide +kernel) (iteF ?_)⟩⟩
      exact ⟨_, rfl, _, rfl, _, .int 4, _, rfl, rfl, P4, ⟨_, rfl⟩, r, _, _, _, rfl, rfl, hpr, at_p (i := 4) (by omega), go _ rfl⟩
    | swap =>
      refine ⟨_, rfl, t, _, _, _, rfl, rfl, ht, rfl, _, rfl, rfl, _, rfl, iteK (by decide +kernel) ⟨_, rfl, rfl, _, rfl, iteK (by decide +kernel) (iteF ?_)⟩⟩
      exact ⟨_, rfl, _, rfl, _, .int 5, _, rfl, rfl, P5, ⟨_, rfl⟩, r, _, _, _, rfl, rfl, hpr, at_p (i := 5) (by omega), go _ rfl⟩
    | skip m =>
      refine ⟨_, rfl, t, _, _, _, rfl, rfl, ht, rfl, _, rfl, rfl, _, rfl, iteK (by decide +kernel) ⟨_, rfl, rfl, _, rfl, iteK (by decide +kernel) (iteF ?_)⟩⟩
      exact ⟨_, rfl, _, rfl, _, .int 6, _, rfl, rfl, P6, ⟨_, rfl⟩, r, _, _, _, rfl, rfl, hpr, at_p (i := 6) (by omega), go _ rfl⟩
def cost (es : List Str) (pr : List Int) (pl : List Nat) (sts : List Sk) : Int := ((pl.zip sts).map fun x => price es x.1 pr x.2).sum
theorem cost_snoc {es : List Str} {pr : List Int} {pl : List Nat} {sts : List Sk} {d : Nat} {st : Sk} (h : pl.length = sts.length) : cost es pr (pl ++ [d]) (sts ++ [st]) = cost es pr pl sts + price es d pr st := by
  unfold cost
  rw [List.zip_append h, List.map_append, List.sum_append]
  simp
theorem walk_pre {es : List Str} {sts : List Sk} {x y : WS} (k : Nat) (h : walk es sts x = some y) : ∃ y', walk es (sts.take k) x = some y' := by
  have e : sts = sts.take k ++ sts.drop k := (List.take_append_drop k sts).symm
  rw [e, walk_append] at h
  cases hw : walk es (sts.take k) x with
  | none => rw [hw] at h; cases h
  | some y' => exact ⟨y', rfl⟩
theorem after_turn {es : List Str} {d : Nat} {last : Option Str} {st : Sk} {y : Nat × List Str} (h : after es d last st = some y) : turnOk es d st := by
  unfold after at h
  split at h
  · rename_i hf
    cases st with
    | turn z => show d < es.length; exact of_decide_eq_true (Bool.and_eq_true_iff.mp hf).1
    | _ => trivial
  · cases h
theorem walk_at {es : List Str} {sts : List Sk} {i : Nat} {st : Sk} {d : Nat} {cp : List Str} {pl : List Nat} {y : WS} (hs : walk es sts (0, [], []) = some y) (hi : sts[i]? = some st) (hw : walk es (sts.take i) (0, [], []) = some (d, cp, pl)) :
    ∃ d' ws, after es d cp.getLast? st = some (d', ws) ∧ walk es (sts.take (i + 1)) (0, [], []) = some (d', cp ++ ws, pl ++ [d]) := by
  obtain ⟨y', hy⟩ := walk_pre (i + 1) hs
  have wt := walk_turn hi hw
  rw [hy] at wt
  cases ha : after es d cp.getLast? st with
  | none => rw [ha] at wt; cases wt
  | some z =>
    rw [ha] at wt
    exact ⟨z.1, z.2, rfl, by rw [hy]; exact wt⟩
theorem take_snoc {sts : List Sk} {i : Nat} {st : Sk} (hi : sts[i]? = some st) : sts.take (i + 1) = sts.take i ++ [st] := by
  have hl := (List.getElem?_eq_some_iff.mp hi).1
  rw [List.take_succ_eq_append_getElem hl, (List.getElem?_eq_some_iff.mp hi).2]
theorem row_none (n : Nat) : rowV n (fun _ => none) = List.replicate (n + 1) .non := by
  unfold rowV
  rw [show (fun j : Nat => ov ((fun _ => none : Nat → Option Int) j)) = fun _ => V.non from rfl, List.map_const', List.length_range]
def spEmp (K : PySem.W.Frag) : Sp := fun vs H Q _ => ∃ (p q : Addr) (es cs : List V), vs = [.ref p, .ref q] ∧ SqT K H p es ∧ SqT K H q cs ∧ es.length ≤ 1000 ∧ cs.length ≤ 1000 ∧
  ∀ (H' : Hp) (l : Addr) (rs : List Addr), Same H H' → H l = none → (∀ r ∈ rs, H r = none) → TabAt H' l rs es.length cs.length (fun _ _ => none) → Q (.ref l) H'
theorem scEmp : FnScope ["elder", "copy"] ["elder", "copy"] (defScope sEmp) := ⟨rfl, rfl, rfl, by decide +kernel, rfl, by decide +kernel, by decide +kernel⟩
theorem nd_ic : (["i", "copy"] : List Str).Nodup := by decide +kernel
theorem ok_emp {f : Addr} {fd : FuncData} (F : Fun K "empty_table" "empty_table" sEmp f fd) (mlen : mg "len" = none) (mrange : mg "range" = none) : FnOk P w K mg base CX0 1 f fd ["elder", "copy"] (spEmp K) := by
  refine F.ok scEmp (fun vs H Q E h => ?_) (fun cdv A outer s H vs Q E hr h => ?_)
  · obtain ⟨p, q, es, cs, rfl, _⟩ := h
    rfl
  · obtain ⟨p, q0, es, cs, rfl, hp, hc, hel, hcl, q⟩ := h
    refine ⟨_, pss_one (ps_ret (pe_comp (Nc := ["i", "copy"]) (mp := [none, some 1]) rfl (CompOk.of (by rfl)) (pi_range1 (by rfl) mrange (pa_cons (pe_op op_add (pe_callB call_len_seq (by rfl) mlen PySem.boot_len (pa_cons (pv 0) pa_nil)) pe_int) pa_nil))
      (fun cl C s H fp => ⟨pg_name (i := 0) nd_ic rfl (Or.inl rfl), pts_nil, pe_op op_mulL (pe_lst (pa_cons pe_non pa_nil)) (pe_op op_add (pe_callB (call_len_seqK (K := K) rfl) (by rfl) mlen PySem.boot_len (pa_cons (pv 1) pa_nil)) pe_int)⟩))), ?_⟩
    refine ⟨_, rfl, p, _, rfl, .inr hp, _, _, rfl, rfl, _, rfl, by omega, by omega, ?_⟩
    have en : ((es.length : Int) + 1).toNat = es.length + 1 := by omega
    rw [en]
    refine comp_grow (as := List.range (es.length + 1)) (v := fun k => .int (0 + ((k : Nat) : Int))) (fun i acc H' => ∃ rs : List Addr, acc = rs.map V.ref ∧ rs.length = i ∧ (∀ r ∈ rs, H' r = some (.lst (rowV cs.length fun _ => none))) ∧ rs.Nodup ∧ (∀ r ∈ rs, H r = none) ∧ Same H H')
      (fun i acc H' _ _ => src_range 0 (es.length + 1) H') (by rw [List.length_range]; exact few (by omega)) ⟨[], rfl, rfl, (fun _ z => nomatch z), .nil, (fun _ z => nomatch z), Same.refl _⟩ (fun i acc H' ⟨rs, e, hl, _⟩ => by rw [e, List.length_map, hl]) ?_ ?_
    · rintro i k acc H' hk ⟨rs, rfl, hl, hrow, hnd, hfr, S⟩ kk hkk
      refine ⟨few (by show 1 ≤ _; omega), fun t ht => ?_⟩
      have T1 := same_upd (o := .lst [.non]) ht
      refine ⟨_, rfl, q0, _, rfl, .inr (sameT (S.trans T1) hc), _, _, rfl, rfl, t, .non, cs.length + 1, rfl, (by congr 1), upd_same, by omega, fun r hr0 => ?_⟩
      have T2 := same_upd (o := .lst (List.replicate (cs.length + 1) .non)) hr0
      have hr1 : H' r = none := T1.free hr0
      refine hkk _ _ ⟨rs ++ [r], by rw [List.map_append]; rfl, by rw [List.length_append, hl]; rfl, ?_, ?_, ?_, (S.trans T1).trans T2⟩
      · intro y hy
        rcases List.mem_append.mp hy with hy | hy
        · exact T2 _ _ (T1 _ _ (hrow y hy))
        · rw [List.mem_singleton.mp hy, upd_same, row_none]
      · refine List.nodup_append.mpr ⟨hnd, (List.pairwise_singleton _ _), fun a ha b hb => ?_⟩
        rw [List.mem_singleton.mp hb]
        intro e
        rw [e] at ha
        rw [hrow r ha] at hr1
        cases hr1
      · intro y hy
        rcases List.mem_append.mp hy with hy | hy
        · exact hfr y hy
        · rw [List.mem_singleton.mp hy]; exact S.free hr1
    · rintro acc H' ⟨rs, rfl, hl, hrow, hnd, hfr, S⟩ D hD
      rw [List.length_range] at hl
      have SD := same_upd (o := .lst (rs.map V.ref)) hD
      refine q _ D rs (S.trans SD) (S.free hD) hfr ⟨upd_same, hl, fun i r e => SD _ _ (hrow r (List.mem_of_getElem? e)), hnd, fun z => ?_⟩
      rw [hrow D z] at hD
      cases hD
def spTld (K : PySem.W.Frag) : Sp := fun vs H Q _ => ∃ (l : Addr) (rs : List Addr) (m n : Nat) (T : Tb), vs = [.ref l] ∧ TabAt H l rs m n T ∧ m ≤ 1000 ∧
  ∀ (H' : Hp) (p : Addr) (ps : List Addr), Same H H' → H' p = some (.tup (ps.map V.ref)) → ps.length = m + 1 → (∀ i q, ps[i]? = some q → H' q = some (.tup (rowV n (T i)))) → Q (.ref p) H'
theorem scTld : FnScope ["table"] ["table"] (defScope sTld) := ⟨rfl, rfl, rfl, by decide +kernel, rfl, by decide +kernel, by decide +kernel⟩
theorem nd_row : (["row"] : List Str).Nodup := by decide +kernel
theorem call_tuple_ofK {X : Cx} {K : PySem.W.Frag} (hK : X.K = K) : CallR X (.type "tuple") (fun xs H Q => ∃ p ys, xs = [.ref p] ∧ ((SqL K H p ys ∧ ∀ l, H l = none → Q (.ref l) (upd H l (.tup ys))) ∨ (SqT K H p ys ∧ Q (.ref p) H))) := by subst hK; exact call_tuple_of
theorem ok_tld {f : Addr} {fd : FuncData} (F : Fun K "table_told" "table_told" sTld f fd) (mtuple : mg "tuple" = none) : FnOk P w K mg base CX0 1 f fd ["table"] (spTld K) := by
  refine F.ok scTld (fun vs H Q E h => ?_) (fun cdv A outer s H vs Q E hr h => ?_)
  · obtain ⟨l, rs, m, n, T, rfl, _⟩ := h
    rfl
  · obtain ⟨l, rs, m, n, T, rfl, hT, hm, q⟩ := h
    refine ⟨_, pss_one (ps_ret (pe_callTy call_tuple_of (by rfl) mtuple boot_tuple (pa_cons (pe_comp (Nc := ["row"]) (mp := [none]) rfl (CompOk.of (by rfl)) (pi_list (pv 0))
      (fun cl C s H fp => ⟨pg_name (i := 0) nd_row rfl (Or.inl rfl), pts_nil, pe_callTy (call_tuple_ofK (K := K) rfl) (by rfl) mtuple boot_tuple (pa_cons (pv 0) pa_nil)⟩)) pa_nil))), ?_⟩
    refine ⟨_, rfl, l, rfl, ⟨_, SqL.of hT.top⟩, comp_grow (as := rs) (v := V.ref) (fun i acc H' => ∃ ps : List Addr, acc = ps.map V.ref ∧ ps.length = i ∧ (∀ j q, ps[j]? = some q → H' q = some (.tup (rowV n (T j)))) ∧ Same H H')
      (fun i acc H' _ ⟨_, _, _, _, S⟩ => src_list (SqL.of (S _ _ hT.top))) (by rw [hT.len]; exact few (by omega)) ⟨[], rfl, rfl, (fun j q z => by simp at z), Same.refl _⟩ (fun i acc H' ⟨ps, e, hl, _⟩ => by rw [e, List.length_map, hl]) ?_ ?_⟩
    · rintro i r acc H' hr ⟨ps, rfl, hl, hrow, S⟩ kk hkk
      refine ⟨_, rfl, r, _, rfl, .inl ⟨SqL.of (S _ _ (hT.row i r hr)), fun t ht => ?_⟩⟩
      have T1 := same_upd (o := .tup (rowV n (T i))) ht
      refine hkk _ _ ⟨ps ++ [t], by rw [List.map_append]; rfl, by rw [List.length_append, hl]; rfl, fun j y hy => ?_, S.trans T1⟩
      by_cases hj : j < ps.length
      · rw [List.getElem?_append_left hj] at hy
        exact T1 _ _ (hrow j y hy)
      · rw [List.getElem?_append_right (by omega)] at hy
        have hj0 : j - ps.length = 0 := by
          have := (List.getElem?_eq_some_iff.mp hy).1
          simp at this
          omega
        rw [hj0] at hy
        simp at hy
        have : j = i := by omega
        rw [← hy, upd_same, this]
    · rintro acc H' ⟨ps, rfl, hl, hrow, S⟩ D hD
      have SD := same_upd (o := .lst (ps.map V.ref)) hD
      refine ⟨D, _, rfl, .inl ⟨SqL.of upd_same, fun t ht => ?_⟩⟩
      have St := same_upd (o := .tup (ps.map V.ref)) ht
      exact q _ t ps ((S.trans SD).trans St) upd_same (by rw [hl, hT.len]) (fun i y e => St _ _ (SD _ _ (hrow i y e)))
def spPtab (K : PySem.W.Frag) : Sp := fun vs H Q _ => ∃ (p q r : Addr) (es cs : List Str) (pr : List Int), vs = [.ref p, .ref q, .ref r] ∧ SqT K H p (es.map V.str) ∧ SqT K H q (cs.map V.str) ∧ SqT K H r (pr.map V.int) ∧ (∀ z ∈ es, Good z) ∧ (∀ z ∈ cs, Good z) ∧ es.length ≤ 1000 ∧ cs.length ≤ 1000 ∧ pr.length = 7 ∧
  ∀ (H' : Hp) (t : Addr) (ps : List Addr) (F : Nat → Nat → Int), Same H H' → H' t = some (.tup (ps.map V.ref)) → ps.length = es.length + 1 → (∀ i y, ps[i]? = some y → H' y = some (.tup ((List.range (cs.length + 1)).map fun j => V.int (F i j)))) → Least (fun i st => price es i pr st) es.length cs.length (ways es cs) F → Q (.ref t) H'
theorem scPtab : FnScope ["elder", "copy", "prices", "table", "i", "j", "step", "done", "written", "price"] ["elder", "copy", "prices"] (defScope sPtab) := ⟨rfl, rfl, rfl, by decide +kernel, rfl, by decide +kernel, by decide +kernel⟩
theorem ref_row {as : List Addr} {n : Nat} {f : Nat → Option Int} : as.map V.ref ≠ rowV n f := by
  intro e
  have h := congrArg (fun l : List V => l[0]?) e
  simp only [rowV_at f (Nat.zero_le n), List.getElem?_map] at h
  cases h0 : as[0]? with
  | none => rw [h0] at h; cases h
  | some a =>
    rw [h0] at h
    injection h with h
    cases hf : f 0 with
    | none => rw [hf] at h; cases h
    | some u => rw [hf] at h; cases h
theorem ok_ptab {f gE gT gW gP : Addr} {fd dE dT dW dP : FuncData} (F : Fun K "price_table" "price_table" sPtab f fd) (DE : Dfn K mg "empty_table" sEmp gE dE ["elder", "copy"]) (DT : Dfn K mg "table_told" sTld gT dT ["table"])
    (DW : Dfn K mg "knot_ways" sWays gW dW ["elder", "copy", "i", "j"]) (GW : FnOk P w K mg base CX0 2 gW dW ["elder", "copy", "i", "j"] (spWays K)) (DP : Dfn K mg "step_price" sPrice gP dP ["elder", "done", "step", "prices"]) (GP : FnOk P w K mg base CX0 2 gP dP ["elder", "done", "step", "prices"] (spPrice K))
    (mlen : mg "len" = none) (mrange : mg "range" = none) (mtuple : mg "tuple" = none) : FnOk P w K mg base CX0 3 f fd ["elder", "copy", "prices"] (spPtab K) := by
  have GE : FnOk P w K mg base CX0 2 gE dE ["elder", "copy"] (spEmp K) := (ok_emp DE.fn mlen mrange).mono (by decide)
  have GT : FnOk P w K mg base CX0 2 gT dT ["table"] (spTld K) := (ok_tld DT.fn mtuple).mono (by decide)
  refine F.ok scPtab (fun vs H Q E h => ?_) (fun cdv A outer s H vs Q E hr h => ?_)
  · obtain ⟨p, q, r, es, cs, pr, rfl, _⟩ := h
    rfl
  · obtain ⟨p, q0, r0, es, cs, pr, rfl, hp, hc, hpr, hge, hgc, hel, hcl, h7, q⟩ := h
    refine ⟨_, pss_cons (ps_set (i := 3) scPtab.nd rfl (Or.inl rfl) (pe_call GE hr (by rfl) DE.at_ DE.fn.kp DE.bn .nil pass0 (pa_cons (pv 0) (pa_cons (pv 1) pa_nil))))
      (pss_cons (ps_asg pe_int (pg_sub (pe_ix ix_list (pv 3) pe_int (fun _ _ => rfl)) pe_int set_list))
      (pss_cons (ps_for PassesOwn.never rfl (pi_range1 (by rfl) mrange (pa_cons (pe_op op_add (pe_callB call_len_seq (by rfl) mlen PySem.boot_len (pa_cons (pv 0) pa_nil)) pe_int) pa_nil)) (pg_name (i := 4) scPtab.nd rfl (Or.inl rfl))
        (pss_one (ps_for PassesOwn.never rfl (pi_range1 (by rfl) mrange (pa_cons (pe_op op_add (pe_callB call_len_seq (by rfl) mlen PySem.boot_len (pa_cons (pv 1) pa_nil)) pe_int) pa_nil)) (pg_name (i := 5) scPtab.nd rfl (Or.inl rfl))
          (pss_one (ps_for PassesOwn.never rfl (pi_list (pe_call GW hr (by rfl) DW.at_ DW.fn.kp DW.bn .nil pass0 (pa_cons (pv 0) (pa_cons (pv 1) (pa_cons (pv 4) (pa_cons (pv 5) pa_nil)))))) (pg_tup (n := 3) rfl (pgs_cons (pg_name (i := 6) scPtab.nd rfl (Or.inl rfl)) (pgs_cons (pg_name (i := 7) scPtab.nd rfl (Or.inl rfl)) (pgs_cons (pg_name (i := 8) scPtab.nd rfl (Or.inl rfl)) pgs_nil))))
            (pss_cons (ps_set (i := 9) scPtab.nd rfl (Or.inl rfl) (pe_op op_add (pe_ix ix_list (pe_ix ix_list (pv 3) (pv 4) (fun _ _ => rfl)) (pv 5) (fun _ _ => rfl)) (pe_call GP hr (by rfl) DP.at_ DP.fn.kp DP.bn .nil pass0 (pa_cons (pv 0) (pa_cons (pv 4) (pa_cons (pv 6) (pa_cons (pv 2) pa_nil)))))))
            (pss_one (ps_if (pw_or (pt_cmpR op_isN (pe_ix ix_list (pe_ix ix_list (pv 3) (pv 7) (fun _ _ => rfl)) (pv 8) (fun _ _ => rfl)) pe_non (nomark _)) (pw_or1 (pt_cmpR op_lt (pv 9) (pe_ix ix_list (pe_ix ix_list (pv 3) (pv 7) (fun _ _ => rfl)) (pv 8) (fun _ _ => rfl)) (nomark _)))).pt
              (pss_one (ps_asg (pv 9) (pg_sub (pe_ix ix_list (pv 3) (pv 7) (fun _ _ => rfl)) (pv 8) set_list))) pss_nil))))))))
      (pss_one (ps_ret (pe_call GT hr (by rfl) DT.at_ DT.fn.kp DT.bn .nil pass0 (pa_cons (pv 3) pa_nil)))))), ?_⟩
    have hle : (es.map V.str).length = es.length := List.length_map ..
    have hlc : (cs.map V.str).length = cs.length := List.length_map ..
    refine ⟨_, rfl, _, rfl, p, q0, _, _, rfl, hp, hc, by omega, by omega, fun H0 l rs S0 hlf hrf hT0 => ?_⟩
    rw [hle, hlc] at hT0
    obtain ⟨ra, era, ara, hra⟩ := hT0.line (Nat.zero_le _)
    refine ⟨_, rfl, l, _, _, _, rfl, rfl, SqL.of hT0.top, ara, ra, _, _, 0, rfl, rfl, hra, ixN_nat (by rw [rowV_len]; exact Nat.succ_pos _), ?_⟩
    have hT1 := hT0.put (j := 0) 0 era (Nat.zero_le _)
    have S1 : Same H (upd H0 ra (.lst ((rowV cs.length ((fun _ _ => none : Tb) 0)).set 0 (.int 0)))) := same_to S0 (hrf ra (List.mem_of_getElem? era))
    generalize upd H0 ra (.lst ((rowV cs.length ((fun _ _ => none : Tb) 0)).set 0 (.int 0))) = H1 at hT1 S1
    refine ⟨_, rfl, p, _, rfl, .inr (sameT S1 hp), _, _, rfl, rfl, _, rfl, by omega, by omega, ?_⟩
    rw [hle, show ((es.length : Int) + 1).toNat = es.length + 1 by omega]
    refine for_range (fun i σ H2 => ∃ (T : Tb) (v4 v5 v6 v7 v8 v9 : Option V), σ = [some (.ref p), some (.ref q0), some (.ref r0), some (.ref l), v4, v5, v6, v7, v8, v9] ∧ TabAt H2 l rs es.length cs.length T ∧ TabI (fun i st => price es i pr st) (Gone es.length cs.length (ways es cs) i 0 []) T ∧ Same H H2)
      ⟨_, none, none, none, none, none, none, rfl, hT1, TabI.start, S1⟩ ?_ ?_
    · rintro i σ H2 hi ⟨T2, v4, v5, v6, v7, v8, v9, rfl, hT2, hI2, S2⟩
      have ei : (0 : Int) + ((i : Nat) : Int) = ((i : Nat) : Int) := by omega
      rw [ei]
      refine ⟨_, rfl, q0, _, rfl, .inr (sameT S2 hc), _, _, rfl, rfl, _, rfl, by omega, by omega, ?_⟩
      rw [hlc, show ((cs.length : Int) + 1).toNat = cs.length + 1 by omega]
      refine for_range (fun j σ H3 => ∃ (T : Tb) (v5 v6 v7 v8 v9 : Option V), σ = [some (.ref p), some (.ref q0), some (.ref r0), some (.ref l), some (.int ((i : Nat) : Int)), v5, v6, v7, v8, v9] ∧ TabAt H3 l rs es.length cs.length T ∧ TabI (fun i st => price es i pr st) (Gone es.length cs.length (ways es cs) i j []) T ∧ Same H H3)
        ⟨T2, v5, v6, v7, v8, v9, rfl, hT2, hI2, S2⟩ ?_ ?_
      · rintro j σ H3 hj ⟨T3, v5, v6, v7, v8, v9, rfl, hT3, hI3, S3⟩
        have ej : (0 : Int) + ((j : Nat) : Int) = ((j : Nat) : Int) := by omega
        rw [ej]
        obtain ⟨t3, ht3⟩ := hI3.here (ways_come es cs) (by omega) (by omega)
        refine ⟨_, rfl, _, rfl, _, rfl, _, rfl, p, q0, es, cs, i, j, rfl, sameT S3 hp, sameT S3 hc, by omega, by omega, hel, fun H4 lw as S4 hlw hW => ?_⟩
        have hok := ways_ok (i := i) (j := j) (es := es) hgc hel
        have htn : ∀ x ∈ ways es cs i j, turnOk es i x.1 := fun x hx => by
          cases hx1 : x.1 with
          | turn z => exact ways_turn hx hx1
          | _ => trivial
        have hfw := ways_fwd es cs i j (by omega) (by omega)
        generalize hws : ways es cs i j = ws at hW hok htn hfw
        refine ⟨lw, rfl, ⟨_, SqL.of hlw⟩, for_list (xs := as.map V.ref) (fun k σ H5 => ∃ (T : Tb) (v6 v7 v8 v9 : Option V), σ = [some (.ref p), some (.ref q0), some (.ref r0), some (.ref l), some (.int ((i : Nat) : Int)), some (.int ((j : Nat) : Int)), v6, v7, v8, v9] ∧ TabAt H5 l rs es.length cs.length T ∧ TabI (fun i st => price es i pr st) (Gone es.length cs.length (ways es cs) i j (ws.take k)) T ∧ T i j = some t3 ∧ H5 lw = some (.lst (as.map V.ref)) ∧ WaysAt H5 as ws ∧ Same H H5)
          ⟨T3, v6, v7, v8, v9, rfl, hT3.mono S4, by rw [List.take_zero]; exact hI3, ht3, hlw, hW, S3.trans S4⟩ (fun k σ H5 _ ⟨_, _, _, _, _, _, _, _, _, h, _⟩ => SqL.of h) ?_ ?_⟩
        · rintro k v σ H5 hk ⟨T5, v6, v7, v8, v9, rfl, hT5, hI5, ht5, hlw5, hW5, S5⟩
          have hkl : k < as.length := by have := (List.getElem?_eq_some_iff.mp hk).1; rwa [List.length_map] at this
          have hkw : k < ws.length := by rw [← hW5.len]; exact hkl
          rw [List.getElem?_map, List.getElem?_eq_getElem hkl] at hk
          have hv : V.ref as[k] = v := Option.some.inj hk
          subst hv
          obtain ⟨ts, ha, hts⟩ := hW5.item k as[k] ws[k] (List.getElem?_eq_getElem hkl) (List.getElem?_eq_getElem hkw)
          have hxm : ws[k] ∈ ws := List.getElem_mem hkw
          have hxm' : ws[k] ∈ ways es cs i j := by rw [hws]; exact hxm
          have hx := hfw _ hxm
          have hxo := hok _ hxm
          have hxt := htn _ hxm
          have htake : ws.take k ++ [ws[k]] = ws.take (k + 1) := (List.take_succ_eq_append_getElem hkw).symm
          obtain ⟨hI6, ht6⟩ := hI5.step (ways_fwd es cs) (by omega) (by omega) hxm' ht5
          rw [htake] at hI6
          generalize ws[k] = x at *
          obtain ⟨st, d, wr⟩ := x
          obtain ⟨ri, eri, ari, hri⟩ := hT5.line (i := i) (by omega)
          obtain ⟨rd, erd, ard, hrd⟩ := hT5.line (i := d) hx.1
          refine ⟨_, _, rfl, SqT.of ha, rfl, _, _, rfl, _, _, rfl, _, _, rfl, rfl, ?_⟩
          refine ⟨_, rfl, _, rfl, l, _, _, _, rfl, rfl, SqL.of hT5.top, ari, _, rfl, ri, _, _, _, rfl, rfl, SqL.of hri, rowV_atI _ (by omega), ?_⟩
          rw [ht5]
          refine ⟨_, rfl, _, rfl, _, rfl, _, rfl, p, ts, r0, es, i, st, pr, rfl, sameT S5 hp, hge, SqT.of hts, hxo, hxt, sameT S5 hpr, h7, _, _, rfl, rfl, ?_⟩
          refine ⟨_, rfl, _, rfl, l, _, _, _, rfl, rfl, SqL.of hT5.top, ard, _, rfl, rd, _, _, _, rfl, rfl, SqL.of hrd, rowV_atI _ hx.2.1, rfl, _, rfl, ?_⟩
          have store : T5.rel (fun i st => price es i pr st) i j (st, d, wr) = T5.put d wr (t3 + price es i pr st) → TabAt (upd H5 rd (.lst ((rowV cs.length (T5 d)).set wr (.int (t3 + price es i pr st))))) l rs es.length cs.length (T5.rel (fun i st => price es i pr st) i j (st, d, wr)) ∧ upd H5 rd (.lst ((rowV cs.length (T5 d)).set wr (.int (t3 + price es i pr st)))) lw = some (.lst (as.map V.ref)) ∧ WaysAt (upd H5 rd (.lst ((rowV cs.length (T5 d)).set wr (.int (t3 + price es i pr st))))) as ws ∧ Same H (upd H5 rd (.lst ((rowV cs.length (T5 d)).set wr (.int (t3 + price es i pr st))))) := by
            intro e
            rw [e]
            refine ⟨hT5.put _ erd hx.2.1, ?_, hW5.set hrd, same_to S5 (hrf rd (List.mem_of_getElem? erd))⟩
            rw [upd_ne (fun z => by
              rw [z, hrd] at hlw5
              injection hlw5 with h1
              injection h1 with h2
              exact ref_row h2.symm)]
            exact hlw5
          cases hu : T5 d wr with
          | none =>
            have er : T5.rel (fun i st => price es i pr st) i j (st, d, wr) = T5.put d wr (t3 + price es i pr st) := by
              unfold Tb.rel
              simp only [ht5, hu]
            obtain ⟨c1, c2, c3, c4⟩ := store er
            refine iteY rfl (iteT ?_)
            refine ⟨_, rfl, _, rfl, _, rfl, l, _, _, _, rfl, rfl, SqL.of hT5.top, ard, _, rfl, rd, _, _, wr, rfl, rfl, hrd, ixN_nat (by rw [rowV_len]; have := hx.2.1; omega), ?_⟩
            exact ⟨_, _, _, _, _, rfl, c1, hI6, ht6, c2, c3, c4⟩
          | some u =>
            refine iteK (fun z => by cases z) ?_
            refine ⟨_, rfl, _, rfl, _, rfl, l, _, _, _, rfl, rfl, SqL.of hT5.top, ard, _, rfl, rd, _, _, _, rfl, rfl, SqL.of hrd, rowV_atI _ hx.2.1, ?_⟩
            rw [hu]
            refine ⟨_, _, rfl, rfl, _, rfl, ite2 (fun hlt => ?_) (fun hlt => ?_)⟩
            · have hlt := of_decide_eq_true hlt
              have er : T5.rel (fun i st => price es i pr st) i j (st, d, wr) = T5.put d wr (t3 + price es i pr st) := by
                unfold Tb.rel
                simp only [ht5, hu]
                rw [if_pos hlt]
              obtain ⟨c1, c2, c3, c4⟩ := store er
              refine ⟨_, rfl, _, rfl, _, rfl, l, _, _, _, rfl, rfl, SqL.of hT5.top, ard, _, rfl, rd, _, _, wr, rfl, rfl, hrd, ixN_nat (by rw [rowV_len]; have := hx.2.1; omega), ?_⟩
              exact ⟨_, _, _, _, _, rfl, c1, hI6, ht6, c2, c3, c4⟩
            · have hlt : ¬ (t3 + price es i pr st < u) := fun z => hlt (decide_eq_true z)
              have er : T5.rel (fun i st => price es i pr st) i j (st, d, wr) = T5 := by
                unfold Tb.rel
                simp only [ht5, hu]
                rw [if_neg hlt]
              rw [er] at hI6
              exact ⟨T5, _, _, _, _, rfl, hT5, hI6, ht5, hlw5, hW5, S5⟩
        · rintro σ H5 ⟨T5, v6, v7, v8, v9, rfl, hT5, hI5, ht5, hlw5, hW5, S5⟩
          rw [List.length_map, hW5.len, List.take_length, ← hws] at hI5
          exact ⟨T5, _, _, _, _, _, rfl, hT5, hI5.congr (Gone.next (by omega) (by omega)), S5⟩
      · rintro σ H3 ⟨T3, v5, v6, v7, v8, v9, rfl, hT3, hI3, S3⟩
        exact ⟨T3, _, _, _, _, _, _, rfl, hT3, hI3.congr Gone.row, S3⟩
    · rintro σ H2 ⟨T2, v4, v5, v6, v7, v8, v9, rfl, hT2, hI2, S2⟩
      obtain ⟨hall, hL⟩ := hI2.least (ways_fwd es cs) (ways_come es cs)
      refine ⟨_, rfl, l, rs, es.length, cs.length, T2, rfl, hT2, hel, fun H9 t ps S9 ht hpl hrow => ?_⟩
      refine q H9 t ps (fun i j => (T2 i j).getD 0) (S2.trans S9) ht hpl (fun i y e => ?_) hL
      rw [hrow i y e]
      congr 2
      unfold rowV
      apply List.map_congr_left
      intro j hj
      have := List.mem_range.mp hj
      have hil : i < ps.length := (List.getElem?_eq_some_iff.mp e).1
      obtain ⟨v, hv⟩ := hall i j (by omega) (by omega)
      rw [hv]
      rfl
theorem ways_few {es cs : List Str} {i j : Nat} (h : es.length ≤ 1000) : (ways es cs i j).length ≤ 1100 := by
  have l6 : (w6 es i j).length ≤ 1000 := by
    unfold w6 skips
    rw [List.length_map]
    split
    · exact Nat.zero_le _
    · rw [List.length_map]
      exact Nat.le_trans (List.length_filter_le _ _) (by rw [List.length_range]; omega)
  have l1 : (w1 es cs i j).length ≤ 1 := by unfold w1; split <;> simp
  have l2 : (w2 es i j).length ≤ 1 := by unfold w2; split <;> simp
  have l3 : (w3 cs i j).length ≤ 1 := by unfold w3; split <;> simp
  have l4 : (w4 cs i j).length ≤ 1 := by unfold w4; split <;> simp
  have l5 : (w5 es cs i j).length ≤ 1 := by unfold w5; split <;> simp
  unfold ways
  simp only [List.length_append]
  omega
theorem down_facts : ∀ m, m < 101 → Builtin.Range.small ((m : Nat) : Int) (-1) (-1) = true ∧ Builtin.Range.rangeSize ((m : Nat) : Int) (-1) (-1) = ((m + 1 : Nat) : Int) := by decide +kernel
def spRtab (K : PySem.W.Frag) : Sp := fun vs H Q _ => ∃ (p q r : Addr) (es cs : List Str) (pr : List Int), vs = [.ref p, .ref q, .ref r] ∧ SqT K H p (es.map V.str) ∧ SqT K H q (cs.map V.str) ∧ SqT K H r (pr.map V.int) ∧ (∀ z ∈ es, Good z) ∧ (∀ z ∈ cs, Good z) ∧ es.length ≤ 100 ∧ cs.length ≤ 100 ∧ pr.length = 7 ∧
  ∀ (H' : Hp) (t : Addr) (ps : List Addr) (F : Nat → Nat → Int), Same H H' → H' t = some (.tup (ps.map V.ref)) → ps.length = es.length + 1 → (∀ i y, ps[i]? = some y → H' y = some (.tup ((List.range (cs.length + 1)).map fun j => V.int (F i j)))) → Rest (fun i st => price es i pr st) es.length cs.length (ways es cs) F → Q (.ref t) H'
theorem scRtab : FnScope ["elder", "copy", "prices", "table", "i", "j", "ways", "rests"] ["elder", "copy", "prices"] (defScope sRtab) := ⟨rfl, rfl, rfl, by decide +kernel, rfl, by decide +kernel, by decide +kernel⟩
theorem nd_sdw : (["step", "done", "written", "elder", "i", "prices", "table"] : List Str).Nodup := by decide +kernel
theorem pg_tupK {X : Cx} {es : List Expr} {k : Nat} {t : TGs} {n : Nat} {pos : Pos} (hK : X.K = K) (hc : X.calm = true) (h : PGs X es t)
    (hn : (assignEach es X.env).length = n := by rfl) (hst : (assignEach es X.env).findIdx? (·.1) = none := by rfl) : PG X (.Tuple es k pos) (gTup K n t) := by
  subst hK
  exact pg_tup hc h hn hst
theorem zip_fst {α β : Type} (f : α → V) : ∀ {xs : List α} {ys : List β}, xs.length = ys.length → (xs.zip ys).map (fun x => f x.1) = xs.map f
  | [], _, _ => by simp
  | x :: xs, [], h => by simp at h
  | x :: xs, y :: ys, h => by
    rw [List.zip_cons_cons, List.map_cons, List.map_cons, zip_fst f (by simpa using h)]
theorem zip_snd {α β γ : Type} (f : β → γ) : ∀ {xs : List α} {ys : List β}, xs.length = ys.length → (xs.zip ys).map (fun x => f x.2) = ys.map f
  | [], [], _ => by simp
  | [], y :: ys, h => by simp at h
  | x :: xs, [], h => by simp at h
  | x :: xs, y :: ys, h => by
    rw [List.zip_cons_cons, List.map_cons, List.map_cons, zip_snd f (by simpa using h)]
theorem zip_ways {H : Hp} {as : List Addr} {ws : List Way} (h : WaysAt H as ws) : ∃ ta : Addr × Way → Addr, ∀ x ∈ as.zip ws, x.2 ∈ ws ∧ H x.1 = some (.tup (wayV (ta x) x.2)) ∧ H (ta x) = some (.tup (stepV x.2.1)) := by
  classical
  refine ⟨fun x => if h : ∃ t, H x.1 = some (.tup (wayV t x.2)) ∧ H t = some (.tup (stepV x.2.1)) then h.choose else x.1, fun x hx => ?_⟩
  obtain ⟨k, hk⟩ := List.mem_iff_getElem?.mp hx
  obtain ⟨h1, h2⟩ := List.getElem?_zip_eq_some.mp hk
  have hh := h.item k x.1 x.2 h1 h2
  dsimp only
  rw [dif_pos hh]
  exact ⟨List.mem_of_getElem? h2, hh.choose_spec⟩
theorem ok_rtab {f gE gT gW gP : Addr} {fd dE dT dW dP : FuncData} (F : Fun K "rest_table" "rest_table" sRtab f fd) (DE : Dfn K mg "empty_table" sEmp gE dE ["elder", "copy"]) (DT : Dfn K mg "table_told" sTld gT dT ["table"])
    (DW : Dfn K mg "knot_ways" sWays gW dW ["elder", "copy", "i", "j"]) (GW : FnOk P w K mg base CX0 2 gW dW ["elder", "copy", "i", "j"] (spWays K)) (DP : Dfn K mg "step_price" sPrice gP dP ["elder", "done", "step", "prices"]) (GP : FnOk P w K mg base CX0 2 gP dP ["elder", "done", "step", "prices"] (spPrice K))
    (mlen : mg "len" = none) (mrange : mg "range" = none) (mtuple : mg "tuple" = none) (mmin : mg "min" = none) : FnOk P w K mg base CX0 3 f fd ["elder", "copy", "prices"] (spRtab K) := by
  have GE : FnOk P w K mg base CX0 2 gE dE ["elder", "copy"] (spEmp K) := (ok_emp DE.fn mlen mrange).mono (by decide)
  have GT : FnOk P w K mg base CX0 2 gT dT ["table"] (spTld K) := (ok_tld DT.fn mtuple).mono (by decide)
  refine F.ok scRtab (fun vs H Q E h => ?_) (fun cdv A outer s H vs Q E hr h => ?_)
  · obtain ⟨p, q, r, es, cs, pr, rfl, _⟩ := h
    rfl
  · obtain ⟨p, q0, r0, es, cs, pr, rfl, hp, hc, hpr, hge, hgc, hel, hcl, h7, q⟩ := h
    refine ⟨_, pss_cons (ps_set (i := 3) scRtab.nd rfl (Or.inr rfl) (pe_call GE hr (by rfl) DE.at_ DE.fn.kp DE.bn .nil pass0 (pa_cons (pv 0) (pa_cons (pv 1) pa_nil))))
      (pss_cons (ps_for PassesOwn.never rfl (pi_range3 (by rfl) mrange (pa_cons (pe_callB call_len_seq (by rfl) mlen PySem.boot_len (pa_cons (pv 0) pa_nil)) (pa_cons (pe_un un_neg pe_int) (pa_cons (pe_un un_neg pe_int) pa_nil)))) (pg_name (i := 4) scRtab.nd rfl (Or.inr rfl))
        (pss_one (ps_for PassesOwn.never rfl (pi_range3 (by rfl) mrange (pa_cons (pe_callB call_len_seq (by rfl) mlen PySem.boot_len (pa_cons (pv 1) pa_nil)) (pa_cons (pe_un un_neg pe_int) (pa_cons (pe_un un_neg pe_int) pa_nil)))) (pg_name (i := 5) scRtab.nd rfl (Or.inl rfl))
          (pss_cons (ps_set (i := 6) scRtab.nd rfl (Or.inl rfl) (pe_call GW hr (by rfl) DW.at_ DW.fn.kp DW.bn .nil pass0 (pa_cons (pv 0) (pa_cons (pv 1) (pa_cons (pv 4) (pa_cons (pv 5) pa_nil))))))
          (pss_cons (ps_setC (i := 7) (Nc := ["step", "done", "written", "elder", "i", "prices", "table"]) (mp := [none, none, none, some 0, some 4, some 2, some 3]) rfl scRtab.nd rfl rfl (CompOk.of (by rfl)) (pi_list (pv 6))
            (fun cl C s H fp => ⟨pg_tupK (K := K) (n := 3) rfl rfl (pgs_cons (pg_name (i := 0) nd_sdw rfl (Or.inl rfl)) (pgs_cons (pg_name (i := 1) nd_sdw rfl (Or.inl rfl)) (pgs_cons (pg_name (i := 2) nd_sdw rfl (Or.inl rfl)) pgs_nil))), pts_nil, pe_op op_add (pe_call GP hr (by rfl) DP.at_ DP.fn.kp DP.bn .nil pass0 (pa_cons (pv 3) (pa_cons (pv 4) (pa_cons (pv 0) (pa_cons (pv 5) pa_nil))))) (pe_ix (ix_listK (K := K) rfl) (pe_ix (ix_listK (K := K) rfl) (pv 6) (pv 1) (fun _ _ => rfl)) (pv 2) (fun _ _ => rfl))⟩))
          (pss_one (ps_asg (pe_minD rfl (by rfl) mmin (pv 7)) (pg_sub (pe_ix ix_list (pv 3) (pv 4) (fun _ _ => rfl)) (pv 5) set_list))))))))
      (pss_one (ps_ret (pe_call GT hr (by rfl) DT.at_ DT.fn.kp DT.bn .nil pass0 (pa_cons (pv 3) pa_nil))))), ?_⟩
    have hle : (es.map V.str).length = es.length := List.length_map ..
    have hlc : (cs.map V.str).length = cs.length := List.length_map ..
    refine ⟨_, rfl, _, rfl, p, q0, _, _, rfl, hp, hc, by omega, by omega, fun H0 l rs S0 hlf hrf hT0 => ?_⟩
    rw [hle, hlc] at hT0
    have dm := down_facts es.length (by omega)
    have dn := down_facts cs.length (by omega)
    refine ⟨_, rfl, p, _, rfl, .inr (sameT S0 hp), _, rfl, _, rfl, ((es.length : Nat) : Int), -1, -1, es.length + 1, by rw [hle], by decide, by decide, dm.1, dm.2, ?_⟩
    refine for_range3 (fun k σ H2 => ∃ (T : Tb) (v4 v5 v6 v7 : Option V), σ = [some (.ref p), some (.ref q0), some (.ref r0), some (.ref l), v4, v5, v6, v7] ∧ TabAt H2 l rs es.length cs.length T ∧ (∀ a b, a ≤ es.length → b ≤ cs.length → es.length < a + k → RestAt (fun i st => price es i pr st) (ways es cs) T a b) ∧ Same H H2)
      ⟨_, none, none, none, none, rfl, hT0, fun a b ha hb h => absurd h (by omega), S0⟩ ?_ ?_
    · rintro k σ H2 hk ⟨T2, v4, v5, v6, v7, rfl, hT2, hI2, S2⟩
      obtain ⟨i, hi⟩ : ∃ i : Nat, i + k = es.length := ⟨es.length - k, by omega⟩
      have ei : ((es.length : Nat) : Int) + ((k : Nat) : Int) * -1 = ((i : Nat) : Int) := by omega
      rw [ei]
      refine ⟨_, rfl, q0, _, rfl, .inr (sameT S2 hc), _, rfl, _, rfl, ((cs.length : Nat) : Int), -1, -1, cs.length + 1, by rw [hlc], by decide, by decide, dn.1, dn.2, ?_⟩
      refine for_range3 (fun t σ H3 => ∃ (T : Tb) (v5 v6 v7 : Option V), σ = [some (.ref p), some (.ref q0), some (.ref r0), some (.ref l), some (.int ((i : Nat) : Int)), v5, v6, v7] ∧ TabAt H3 l rs es.length cs.length T ∧ (∀ a b, a ≤ es.length → b ≤ cs.length → (i < a ∨ (a = i ∧ cs.length < b + t)) → RestAt (fun i st => price es i pr st) (ways es cs) T a b) ∧ Same H H3)
        ⟨T2, v5, v6, v7, rfl, hT2, fun a b ha hb h => hI2 a b ha hb (by omega), S2⟩ ?_ ?_
      · rintro t σ H3 ht ⟨T3, v5, v6, v7, rfl, hT3, hI3, S3⟩
        obtain ⟨j, hj⟩ : ∃ j : Nat, j + t = cs.length := ⟨cs.length - t, by omega⟩
        have ej : ((cs.length : Nat) : Int) + ((t : Nat) : Int) * -1 = ((j : Nat) : Int) := by omega
        rw [ej]
        have hR : RestI (fun i st => price es i pr st) es.length cs.length (ways es cs) i j T3 := fun a b ha hb h => hI3 a b ha hb (by omega)
        refine ⟨_, rfl, _, rfl, _, rfl, _, rfl, p, q0, es, cs, i, j, rfl, sameT S3 hp, sameT S3 hc, by omega, by omega, by omega, fun H4 lw as S4 hlw hW => ?_⟩
        have hok := ways_ok (i := i) (j := j) (es := es) hgc (by omega)
        have htn : ∀ x ∈ ways es cs i j, turnOk es i x.1 := fun x hx => by
          cases hx1 : x.1 with
          | turn z => exact ways_turn hx hx1
          | _ => trivial
        have hfw := ways_fwd es cs i j (by omega) (by omega)
        have hend : ∀ x ∈ ways es cs i j, ∃ u, T3 x.2.1 x.2.2 = some u := fun x hx => hR.ends (ways_fwd es cs) (by omega) (by omega) hx
        have hput := hR.put (ways_fwd es cs) (by omega) (by omega)
        have hwl := ways_few (es := es) (cs := cs) (i := i) (j := j) (by omega)
        generalize hws : ways es cs i j = ws at hW hok htn hfw hend hput hwl
        have hT4 := hT3.mono S4
        have S34 := S3.trans S4
        obtain ⟨ta, hta⟩ := zip_ways hW
        have hlz : H4 lw = some (.lst ((as.zip ws).map fun x => V.ref x.1)) := by rw [zip_fst V.ref hW.len]; exact hlw
        refine ⟨_, rfl, lw, rfl, ⟨_, SqL.of hlz⟩, comp_trip (K := K) (as := as.zip ws) (v := fun x => V.ref x.1) (x := fun x => V.ref (ta x)) (y := fun x => .int ((x.2.2.1 : Nat) : Int)) (z := fun x => .int ((x.2.2.2 : Nat) : Int)) (fun x => .int (price es i pr x.2.1 + (T3 x.2.2.1 x.2.2.2).getD 0)) (src_list (SqL.of hlz)) (by rw [List.length_zip, hW.len]; exact few (by omega)) (fun x hx => ⟨x.1, rfl, SqT.of (hta x hx).2.1⟩) (fun x hx kc hkc => ?_) (fun D hD => ?_)⟩
        · obtain ⟨hxm, hx1, hx2⟩ := hta x hx
          have hx := hfw _ hxm
          obtain ⟨u, hu⟩ := hend _ hxm
          obtain ⟨rd, erd, ard, hrd⟩ := hT4.line (i := x.2.2.1) hx.1
          refine ⟨_, rfl, _, rfl, _, rfl, _, rfl, p, ta x, r0, es, i, x.2.1, pr, rfl, sameT S34 hp, hge, SqT.of hx2, hok _ hxm, htn _ hxm, sameT S34 hpr, h7, _, rfl, _, rfl, l, _, _, _, rfl, rfl, SqL.of hT4.top, ard, _, rfl, rd, _, _, _, rfl, rfl, SqL.of hrd, rowV_atI _ hx.2.1, ?_⟩
          rw [hu] at hkc ⊢
          exact ⟨_, _, rfl, rfl, hkc⟩
        · have SD := same_upd (o := .lst ((as.zip ws).map fun x => V.int (price es i pr x.2.1 + (T3 x.2.2.1 x.2.2.2).getD 0))) hD
          have hDl : upd H4 D (.lst ((as.zip ws).map fun x => V.int (price es i pr x.2.1 + (T3 x.2.2.1 x.2.2.2).getD 0))) D = some (.lst ((ws.map fun x => price es i pr x.1 + (T3 x.2.1 x.2.2).getD 0).map V.int)) := by
            rw [upd_same, List.map_map, zip_snd (fun x : Way => V.int (price es i pr x.1 + (T3 x.2.1 x.2.2).getD 0)) hW.len]
            rfl
          have hT5 := hT4.mono SD
          have S5 := S34.trans SD
          generalize upd H4 D (.lst ((as.zip ws).map fun x => V.int (price es i pr x.2.1 + (T3 x.2.2.1 x.2.2.2).getD 0))) = H5 at SD hDl hT5 S5
          obtain ⟨ri, eri, ari, hri⟩ := hT5.line (i := i) (by omega)
          have g2 : ∀ o, Same H (upd H5 ri o) := fun o => same_to S5 (hrf ri (List.mem_of_getElem? eri))
          refine ⟨_, rfl, D, _, rfl, SqL.of hDl, fun e0 => ?_, fun m hm hle' => ?_⟩
          · refine ⟨_, rfl, _, rfl, l, _, _, _, rfl, rfl, SqL.of hT5.top, ari, _, rfl, ri, _, _, j, rfl, rfl, hri, ixN_nat (by rw [rowV_len]; omega), T3.put i j 0, _, _, _, rfl, hT5.put 0 eri (by omega), fun a b ha hb h => ?_, g2 _⟩
            have := hput a b ha hb (by omega)
            rw [e0] at this
            exact this
          · have em : m = leastOf (ws.map fun x => price es i pr x.1 + (T3 x.2.1 x.2.2).getD 0) := by
              have h1 := leastOf_le hm
              have h2 := hle' _ (leastOf_mem (fun z => by rw [z] at hm; cases hm))
              omega
            refine ⟨_, rfl, _, rfl, l, _, _, _, rfl, rfl, SqL.of hT5.top, ari, _, rfl, ri, _, _, j, rfl, rfl, hri, ixN_nat (by rw [rowV_len]; omega), T3.put i j m, _, _, _, rfl, hT5.put m eri (by omega), fun a b ha hb h => by rw [em]; exact hput a b ha hb (by omega), g2 _⟩
      · rintro σ H3 ⟨T3, v5, v6, v7, rfl, hT3, hI3, S3⟩
        exact ⟨T3, _, _, _, _, rfl, hT3, fun a b ha hb h => hI3 a b ha hb (by omega), S3⟩
    · rintro σ H2 ⟨T2, v4, v5, v6, v7, rfl, hT2, hI2, S2⟩
      obtain ⟨hall, hL⟩ := rest_of (fun a b ha hb => hI2 a b ha hb (by omega)) (ways_none es cs) (fun i j hi hj hn => ways_some es cs hi hj hn)
      refine ⟨_, rfl, l, rs, es.length, cs.length, T2, rfl, hT2, by omega, fun H9 t ps S9 ht hpl hrow => ?_⟩
      refine q H9 t ps (fun i j => (T2 i j).getD 0) (S2.trans S9) ht hpl (fun i y e => ?_) hL
      rw [hrow i y e]
      congr 2
      unfold rowV
      apply List.map_congr_left
      intro j hj
      have := List.mem_range.mp hj
      have hil : i < ps.length := (List.getElem?_eq_some_iff.mp e).1
      obtain ⟨v, hv⟩ := hall i j (by omega) (by omega)
      rw [hv]
      rfl
structure NumsAt (H : Hp) (t : Addr) (ps : List Addr) (m n : Nat) (F : Nat → Nat → Int) : Prop where
  top : H t = some (.tup (ps.map V.ref))
  len : ps.length = m + 1
  row : ∀ i y, ps[i]? = some y → H y = some (.tup ((List.range (n + 1)).map fun j => V.int (F i j)))
theorem NumsAt.mono {H H' : Hp} {t : Addr} {ps : List Addr} {m n : Nat} {F : Nat → Nat → Int} (h : NumsAt H t ps m n F) (S : Same H H') : NumsAt H' t ps m n F := ⟨S _ _ h.top, h.len, fun i y e => S _ _ (h.row i y e)⟩
theorem nums_line {H : Hp} {t : Addr} {ps : List Addr} {m n : Nat} {F : Nat → Nat → Int} (h : NumsAt H t ps m n F) {i : Nat} (hi : i ≤ m) : ∃ y, atI (ps.map V.ref) ((i : Nat) : Int) = some (.ref y) ∧ H y = some (.tup ((List.range (n + 1)).map fun j => V.int (F i j))) := by
  have hl : i < ps.length := by rw [h.len]; omega
  exact ⟨ps[i], atI_nat (by rw [List.getElem?_map, List.getElem?_eq_getElem hl]; rfl), h.row i _ (List.getElem?_eq_getElem hl)⟩
theorem nums_at {n j : Nat} (f : Nat → Int) (hj : j ≤ n) : atI ((List.range (n + 1)).map fun j => V.int (f j)) ((j : Nat) : Int) = some (.int (f j)) :=
  atI_nat (by rw [List.getElem?_map, List.getElem?_range (by omega)]; rfl)
theorem atI_last {xs : List V} {v : V} (h : xs[xs.length - 1]? = some v) (h0 : 0 < xs.length) : atI xs (-1) = some v := by
  unfold atI
  rw [← h]
  have e : ixN xs.length (-1) = some (xs.length - 1) := by
    unfold ixN
    rw [if_neg (by omega)]
    rw [if_pos (by omega)]
    congr 1
    omega
  rw [e]
  rfl
theorem nums_last {H : Hp} {t : Addr} {ps : List Addr} {m n : Nat} {F : Nat → Nat → Int} (h : NumsAt H t ps m n F) : ∃ y, atI (ps.map V.ref) (-1) = some (.ref y) ∧ H y = some (.tup ((List.range (n + 1)).map fun j => V.int (F m j))) ∧ atI ((List.range (n + 1)).map fun j => V.int (F m j)) (-1) = some (.int (F m n)) := by
  have hl : m < ps.length := by rw [h.len]; omega
  refine ⟨ps[m], atI_last ?_ (by rw [List.length_map]; omega), h.row m _ (List.getElem?_eq_getElem hl), atI_last ?_ (by rw [List.length_map, List.length_range]; omega)⟩
  · rw [List.length_map, h.len, Nat.add_sub_cancel, List.getElem?_map, List.getElem?_eq_getElem hl]; rfl
  · rw [List.length_map, List.length_range, Nat.add_sub_cancel, List.getElem?_map, List.getElem?_range (by omega)]; rfl
def cheap (es cs : List Str) (pr : List Int) (R : Nat → Nat → Int) (i j : Nat) : List Way := (ways es cs i j).filter fun x => decide (price es i pr x.1 + R x.2.1 x.2.2 = R i j)
theorem cheap_in {es cs : List Str} {pr : List Int} {R : Nat → Nat → Int} {i j : Nat} {x : Way} (h : x ∈ cheap es cs pr R i j) : x ∈ ways es cs i j ∧ price es i pr x.1 + R x.2.1 x.2.2 = R i j :=
  ⟨(List.mem_filter.mp h).1, of_decide_eq_true (List.mem_filter.mp h).2⟩
def Told (es cs : List Str) (pr : List Int) (R : Nat → Nat → Int) : Nat → Nat → List Sk → Prop
  | i, j, [] => i = es.length ∧ j = cs.length
  | i, j, st :: r => ∃ x, (cheap es cs pr R i j).head? = some x ∧ x.1 = st ∧ Told es cs pr R x.2.1 x.2.2 r
def spCW (K : PySem.W.Frag) : Sp := fun vs H Q _ => ∃ (p q r t : Addr) (es cs : List Str) (pr : List Int) (ps : List Addr) (R : Nat → Nat → Int) (i j : Nat), vs = [.ref p, .ref q, .ref r, .ref t, .int ((i : Nat) : Int), .int ((j : Nat) : Int)] ∧ SqT K H p (es.map V.str) ∧ SqT K H q (cs.map V.str) ∧ SqT K H r (pr.map V.int) ∧ (∀ z ∈ es, Good z) ∧ (∀ z ∈ cs, Good z) ∧ es.length ≤ 100 ∧ cs.length ≤ 100 ∧ pr.length = 7 ∧ NumsAt H t ps es.length cs.length R ∧ i ≤ es.length ∧ j ≤ cs.length ∧
  ∀ (H' : Hp) (l : Addr) (as : List Addr), Same H H' → H' l = some (.lst (as.map V.ref)) → WaysAt H' as (cheap es cs pr R i j) → Q (.ref l) H'
theorem scCW : FnScope ["elder", "copy", "prices", "rest", "i", "j", "ways", "step", "done", "written"] ["elder", "copy", "prices", "rest", "i", "j"] (defScope sCW) := ⟨rfl, rfl, rfl, by decide +kernel, rfl, by decide +kernel, by decide +kernel⟩
theorem ok_cw {f gW gP : Addr} {fd dW dP : FuncData} (F : Fun K "cheapest_ways" "cheapest_ways" sCW f fd) (DW : Dfn K mg "knot_ways" sWays gW dW ["elder", "copy", "i", "j"]) (GW : FnOk P w K mg base CX0 2 gW dW ["elder", "copy", "i", "j"] (spWays K)) (DP : Dfn K mg "step_price" sPrice gP dP ["elder", "done", "step", "prices"]) (GP : FnOk P w K mg base CX0 2 gP dP ["elder", "done", "step", "prices"] (spPrice K)) : FnOk P w K mg base CX0 3 f fd ["elder", "copy", "prices", "rest", "i", "j"] (spCW K) := by
  refine F.ok scCW (fun vs H Q E h => ?_) (fun cdv A outer s H vs Q E hr h => ?_)
  · obtain ⟨p, q, r, t, es, cs, pr, ps, R, i, j, rfl, _⟩ := h
    rfl
  · obtain ⟨p, q0, r0, t, es, cs, pr, ps, R, i, j, rfl, hp, hc, hpr, hge, hgc, hel, hcl, h7, hN, hi, hj, q⟩ := h
    refine ⟨_, pss_cons (ps_set (i := 6) scCW.nd rfl (Or.inl rfl) (pe_lst pa_nil))
      (pss_cons (ps_for PassesOwn.never rfl (pi_list (pe_call GW hr (by rfl) DW.at_ DW.fn.kp DW.bn .nil pass0 (pa_cons (pv 0) (pa_cons (pv 1) (pa_cons (pv 4) (pa_cons (pv 5) pa_nil)))))) (pg_tup (n := 3) rfl (pgs_cons (pg_name (i := 7) scCW.nd rfl (Or.inl rfl)) (pgs_cons (pg_name (i := 8) scCW.nd rfl (Or.inl rfl)) (pgs_cons (pg_name (i := 9) scCW.nd rfl (Or.inl rfl)) pgs_nil))))
        (pss_one (ps_if (pt_cmpR op_eq (pe_op op_add (pe_call GP hr (by rfl) DP.at_ DP.fn.kp DP.bn .nil pass0 (pa_cons (pv 0) (pa_cons (pv 4) (pa_cons (pv 7) (pa_cons (pv 2) pa_nil))))) (pe_ix ix_tup (pe_ix ix_tup (pv 3) (pv 8) (fun _ _ => rfl)) (pv 9) (fun _ _ => rfl))) (pe_ix ix_tup (pe_ix ix_tup (pv 3) (pv 4) (fun _ _ => rfl)) (pv 5) (fun _ _ => rfl)) (nomark _)) (pss_one (ps_expr (pe_bm PySem.F.plainAttrs_list PySem.F.slot_list_append PySem.F.type_list_append mt_append (pv 6) (pa_cons (pe_tup (pa_cons (pv 7) (pa_cons (pv 8) (pa_cons (pv 9) pa_nil)))) pa_nil)))) pss_nil)))
      (pss_one (ps_ret (pv 6)))), ?_⟩
    refine ⟨Nat.zero_le _, fun l hl => ?_⟩
    have S0 := same_upd (o := .lst []) hl
    refine ⟨_, rfl, _, rfl, _, rfl, _, rfl, p, q0, es, cs, i, j, rfl, sameT S0 hp, sameT S0 hc, hi, hj, by omega, fun H1 lw as S1 hlw hW => ?_⟩
    have hok := ways_ok (i := i) (j := j) (es := es) hgc (by omega)
    have htn : ∀ x ∈ ways es cs i j, turnOk es i x.1 := fun x hx => by
      cases hx1 : x.1 with
      | turn z => exact ways_turn hx hx1
      | _ => trivial
    have hfw := ways_fwd es cs i j hi hj
    have hwl := ways_few (es := es) (cs := cs) (i := i) (j := j) (by omega)
    unfold cheap at q
    generalize ways es cs i j = ws at hW hok htn hfw hwl q
    have S01 := S0.trans S1
    have hl1 := S1 _ _ (upd_same (H := H) (a := l) (o := .lst []))
    have nlw : lw ≠ l ∨ as = [] := by
      by_cases e : lw = l
      · right
        rw [e, hl1] at hlw
        injection hlw with h1
        injection h1 with h2
        exact List.map_eq_nil_iff.mp h2.symm
      · exact .inl e
    refine ⟨lw, rfl, ⟨_, SqL.of hlw⟩, for_list (K := K) (a := lw) (xs := as.map V.ref) (fun k σ H2 => ∃ (bs : List Addr) (v7 v8 v9 : Option V), σ = [some (.ref p), some (.ref q0), some (.ref r0), some (.ref t), some (.int ((i : Nat) : Int)), some (.int ((j : Nat) : Int)), some (.ref l), v7, v8, v9] ∧ H2 l = some (.lst (bs.map V.ref)) ∧ H2 lw = some (.lst (as.map V.ref)) ∧ WaysAt H2 as ws ∧ Same H H2 ∧ WaysAt H2 bs ((ws.take k).filter fun x => decide (price es i pr x.1 + R x.2.1 x.2.2 = R i j)))
      ⟨[], none, none, none, rfl, hl1, hlw, hW, S01, rfl, fun k a x e => by simp at e⟩ (fun k σ H2 _ ⟨_, _, _, _, _, _, h, _⟩ => SqL.of h) ?_ ?_⟩
    · rintro k y σ H2 hk ⟨bs, v7, v8, v9, rfl, h2, hlw2, hW2, S2, hB⟩
      obtain ⟨a, hak, rfl⟩ := ref_at hk
      have hne : as ≠ [] := fun z => by rw [z] at hak; simp at hak
      have nl : lw ≠ l := nlw.resolve_right hne
      have hkl : k < ws.length := by rw [← hW2.len]; exact (List.getElem?_eq_some_iff.mp hak).1
      obtain ⟨ts, ha, hts⟩ := hW2.item k a ws[k] hak (List.getElem?_eq_getElem hkl)
      have hxm : ws[k] ∈ ws := List.getElem_mem hkl
      have hx := hfw _ hxm
      have hx1 := hok _ hxm
      have hx2 := htn _ hxm
      have htake : ws.take (k + 1) = ws.take k ++ [ws[k]] := List.take_succ_eq_append_getElem hkl
      generalize ws[k] = x at *
      have hN2 := hN.mono S2
      obtain ⟨z1, az1, hz1⟩ := nums_line hN2 hx.1
      obtain ⟨z2, az2, hz2⟩ := nums_line hN2 hi
      refine ⟨_, _, rfl, SqT.of ha, rfl, _, _, rfl, _, _, rfl, _, _, rfl, rfl, ?_⟩
      refine ⟨_, rfl, _, rfl, _, rfl, _, rfl, p, ts, r0, es, i, x.1, pr, rfl, sameT S2 hp, hge, SqT.of hts, hx1, hx2, sameT S2 hpr, h7, _, rfl, _, rfl, t, _, _, _, rfl, rfl, SqT.of hN2.top, az1, _, rfl, z1, _, _, _, rfl, rfl, SqT.of hz1, nums_at _ hx.2.1, _, _, rfl, rfl, _, rfl, _, rfl, t, _, _, _, rfl, rfl, SqT.of hN2.top, az2, _, rfl, z2, _, _, _, rfl, rfl, SqT.of hz2, nums_at _ hj, rfl, _, rfl, ?_⟩
      refine ite2 (fun h => ?_) (fun h => ?_)
      · have h := of_decide_eq_true h
        injection h with h
        have ef : (ws.take (k + 1)).filter (fun x => decide (price es i pr x.1 + R x.2.1 x.2.2 = R i j)) = (ws.take k).filter (fun x => decide (price es i pr x.1 + R x.2.1 x.2.2 = R i j)) ++ [x] := by
          rw [htake, List.filter_append, List.filter_cons_of_pos (by exact decide_eq_true h), List.filter_nil]
        refine ⟨_, rfl, .inl ⟨rfl, _, SqL.of h2⟩, _, rfl, _, rfl, _, rfl, few (by show 3 ≤ _; omega), fun b hb => ?_⟩
        have S3 := same_upd (o := .tup (wayV ts x)) hb
        have h3 := S3 _ _ h2
        have hbl : bs.length ≤ k := by rw [hB.len]; exact Nat.le_trans (List.length_filter_le _ _) (by rw [List.length_take]; omega)
        refine ⟨l, _, _, rfl, rfl, h3, (by rw [List.length_map]; exact fewer (by omega)), bs ++ [b], _, _, _, rfl, by rw [upd_same, List.map_append]; rfl, by rw [upd_ne nl]; exact S3 _ _ hlw2, (hW2.mono S3).set h3, same_to (S2.trans S3) hl, ?_⟩
        rw [ef]
        exact WaysAt.set ((hB.mono S3).app (WaysAt.one upd_same (S3 _ _ hts))) h3
      · have h : ¬ (price es i pr x.1 + R x.2.1 x.2.2 = R i j) := fun z => h (decide_eq_true (by show V.int (price es i pr x.1 + R x.2.1 x.2.2) = _; rw [z]))
        have ef : (ws.take (k + 1)).filter (fun x => decide (price es i pr x.1 + R x.2.1 x.2.2 = R i j)) = (ws.take k).filter (fun x => decide (price es i pr x.1 + R x.2.1 x.2.2 = R i j)) := by
          rw [htake, List.filter_append, List.filter_cons_of_neg (by rw [decide_eq_false h]; exact Bool.false_ne_true), List.filter_nil, List.append_nil]
        exact ⟨bs, _, _, _, rfl, h2, hlw2, hW2, S2, by rw [ef]; exact hB⟩
    · rintro σ H2 ⟨bs, v7, v8, v9, rfl, h2, hlw2, hW2, S2, hB⟩
      rw [List.length_map, hW2.len, List.take_length] at hB
      exact ⟨_, rfl, q _ l bs S2 h2 hB⟩
def spFC (K : PySem.W.Frag) : Sp := fun vs H Q _ => ∃ (p q r : Addr) (es cs : List Str) (pr : List Int), vs = [.ref p, .ref q, .ref r] ∧ SqT K H p (es.map V.str) ∧ SqT K H q (cs.map V.str) ∧ SqT K H r (pr.map V.int) ∧ (∀ z ∈ es, Good z) ∧ (∀ z ∈ cs, Good z) ∧ es.length ≤ 100 ∧ cs.length ≤ 100 ∧ pr.length = 7 ∧
  ∀ (H' : Hp) (t : Addr) (ts : List Addr) (sts : List Sk) (R : Nat → Nat → Int), Same H H' → H' t = some (.tup (ts.map V.ref)) → TupsAt H' ts sts → Rest (fun i st => price es i pr st) es.length cs.length (ways es cs) R → Told es cs pr R 0 0 sts → sts.length ≤ es.length + cs.length → Q (.ref t) H'
theorem scFC : FnScope ["elder", "copy", "prices", "rest", "steps", "i", "j", "way"] ["elder", "copy", "prices"] (defScope sFC) := ⟨rfl, rfl, rfl, by decide +kernel, rfl, by decide +kernel, by decide +kernel⟩
theorem ok_fc {f gR gC : Addr} {fd dR dC : FuncData} (F : Fun K "first_cheapest" "first_cheapest" sFC f fd) (DR : Dfn K mg "rest_table" sRtab gR dR ["elder", "copy", "prices"]) (GR : FnOk P w K mg base CX0 3 gR dR ["elder", "copy", "prices"] (spRtab K)) (DC : Dfn K mg "cheapest_ways" sCW gC dC ["elder", "copy", "prices", "rest", "i", "j"]) (GC : FnOk P w K mg base CX0 3 gC dC ["elder", "copy", "prices", "rest", "i", "j"] (spCW K)) (mlen : mg "len" = none) (mtup : mg "tuple" = none) : FnOk P w K mg base CX0 4 f fd ["elder", "copy", "prices"] (spFC K) := by
  refine F.ok scFC (fun vs H Q E h => ?_) (fun cdv A outer s H vs Q E hr h => ?_)
  · obtain ⟨p, q, r, es, cs, pr, rfl, _⟩ := h
    rfl
  · obtain ⟨p, q0, r0, es, cs, pr, rfl, hp, hc, hpr, hge, hgc, hel, hcl, h7, q⟩ := h
    refine ⟨_, pss_cons (ps_set (i := 3) scFC.nd rfl (Or.inl rfl) (pe_call GR hr (by rfl) DR.at_ DR.fn.kp DR.bn .nil pass0 (pa_cons (pv 0) (pa_cons (pv 1) (pa_cons (pv 2) pa_nil)))))
      (pss_cons (ps_set (i := 4) scFC.nd rfl (Or.inl rfl) (pe_lst pa_nil))
      (pss_cons (ps_set (i := 5) scFC.nd rfl (Or.inl rfl) pe_int)
      (pss_cons (ps_set (i := 6) scFC.nd rfl (Or.inl rfl) pe_int)
      (pss_cons (ps_while PassesOwn.never (pw_or (pt_cmpR op_lt (pv 5) (pe_callB call_len_seq (by rfl) mlen PySem.boot_len (pa_cons (pv 0) pa_nil)) (nomark _)) (pw_or1 (pt_cmpR op_lt (pv 6) (pe_callB call_len_seq (by rfl) mlen PySem.boot_len (pa_cons (pv 1) pa_nil)) (nomark _)))).pt
        (pss_cons (ps_set (i := 7) scFC.nd rfl (Or.inl rfl) (pe_ix ix_list (pe_call GC hr (by rfl) DC.at_ DC.fn.kp DC.bn .nil pass0 (pa_cons (pv 0) (pa_cons (pv 1) (pa_cons (pv 2) (pa_cons (pv 3) (pa_cons (pv 5) (pa_cons (pv 6) pa_nil))))))) pe_int (fun _ _ => rfl)))
        (pss_cons (ps_expr (pe_bm PySem.F.plainAttrs_list PySem.F.slot_list_append PySem.F.type_list_append mt_append (pv 4) (pa_cons (pe_ix ix_tup (pv 7) pe_int (fun _ _ => rfl)) pa_nil)))
        (pss_cons (ps_set (i := 5) scFC.nd rfl (Or.inl rfl) (pe_ix ix_tup (pv 7) pe_int (fun _ _ => rfl)))
        (pss_one (ps_set (i := 6) scFC.nd rfl (Or.inl rfl) (pe_ix ix_tup (pv 7) pe_int (fun _ _ => rfl))))))))
      (pss_one (ps_ret (pe_callTy call_tuple_of (by rfl) mtup boot_tuple (pa_cons (pv 4) pa_nil)))))))), ?_⟩
    have hle : (es.map V.str).length = es.length := List.length_map ..
    have hlc : (cs.map V.str).length = cs.length := List.length_map ..
    refine ⟨_, rfl, _, rfl, _, rfl, p, q0, r0, es, cs, pr, rfl, hp, hc, hpr, hge, hgc, hel, hcl, h7, fun H1 t ps R S1 ht htl hrow hR => ?_⟩
    have hN : NumsAt H1 t ps es.length cs.length R := ⟨ht, htl, hrow⟩
    refine ⟨Nat.zero_le _, fun l hl => ?_⟩
    have S2 := same_upd (o := .lst []) hl
    obtain ⟨W, hW⟩ : ∃ W : Nat → L2.St → Hp → Prop, W = fun k σ H3 => ∃ (i j : Nat) (ts : List Addr) (sts : List Sk) (v7 : Option V), k = (es.length - i) + (cs.length - j) ∧ i ≤ es.length ∧ j ≤ cs.length ∧ σ = [some (.ref p), some (.ref q0), some (.ref r0), some (.ref t), some (.ref l), some (.int ((i : Nat) : Int)), some (.int ((j : Nat) : Int)), v7] ∧ H3 l = some (.lst (ts.map V.ref)) ∧ TupsAt H3 ts sts ∧ sts.length ≤ i + j ∧ (∀ r, Told es cs pr R i j r → Told es cs pr R 0 0 (sts ++ r)) ∧ Same H1 H3 := ⟨_, rfl⟩
    refine ⟨W, ⟨(es.length - 0) + (cs.length - 0), by rw [hW]; exact ⟨0, 0, [], [], none, rfl, Nat.zero_le _, Nat.zero_le _, rfl, upd_same, TupsAt.nil, Nat.le_refl _, fun r h => h, S2⟩⟩, ?_⟩
    intro k σ H3 hk
    rw [hW] at hk
    obtain ⟨i, j, ts, sts, v7, rfl, hi, hj, rfl, h3, hT, hsl, hto, S3⟩ := hk
    have S13 := S1.trans S3
    by_cases hn : i = es.length ∧ j = cs.length
    · obtain ⟨rfl, rfl⟩ := hn
      refine ⟨_, rfl, _, rfl, p, _, rfl, .inr (sameT S13 hp), _, _, rfl, rfl, _, rfl, iteK (by rw [hle]; omega) ?_⟩
      refine ⟨_, rfl, _, rfl, q0, _, rfl, .inr (sameT S13 hc), _, _, rfl, rfl, _, rfl, iteK (by rw [hlc]; omega) ?_⟩
      refine ⟨_, rfl, l, _, rfl, .inl ⟨SqL.of h3, fun t9 ht9 => ?_⟩⟩
      have S9 := same_upd (o := .tup (ts.map V.ref)) ht9
      have ht0 := hto [] ⟨rfl, rfl⟩
      rw [List.append_nil] at ht0
      exact q _ t9 ts sts R (S13.trans S9) upd_same (hT.mono S9) hR ht0 hsl
    · refine (fun hG => ⟨_, rfl, _, rfl, p, _, rfl, .inr (sameT S13 hp), _, _, rfl, rfl, _, rfl, ite2 (fun _ => iteT hG) (fun h => ⟨_, rfl, _, rfl, q0, _, rfl, .inr (sameT S13 hc), _, _, rfl, rfl, _, rfl, iteY (by
        have h : ¬ (((i : Nat) : Int) < ((es.map V.str).length : Int)) := fun z => h (decide_eq_true z)
        rw [hle] at h
        rw [hlc]
        omega) hG⟩)⟩) ?_
      refine ⟨fun σ' H' => ∃ m', m' < (es.length - i) + (cs.length - j) ∧ W m' σ' H', fun _ _ z => z, ?_⟩
      refine ⟨_, rfl, _, rfl, _, rfl, _, rfl, _, rfl, _, rfl, p, q0, r0, t, es, cs, pr, ps, R, i, j, rfl, sameT S13 hp, sameT S13 hc, sameT S13 hpr, hge, hgc, hel, hcl, h7, hN.mono S3, hi, hj, fun H4 lc as S4 hlc' hW4 => ?_⟩
      obtain ⟨x0, hx0, ex0⟩ := hR.eq i j hi hj hn
      have hcm : x0 ∈ cheap es cs pr R i j := List.mem_filter.mpr ⟨hx0, decide_eq_true ex0.symm⟩
      obtain ⟨x, xs, hxs⟩ : ∃ x xs, cheap es cs pr R i j = x :: xs := by
        cases hch : cheap es cs pr R i j with
        | nil => rw [hch] at hcm; cases hcm
        | cons x xs => exact ⟨x, xs, rfl⟩
      have hxm : x ∈ cheap es cs pr R i j := by rw [hxs]; exact List.mem_cons_self ..
      have hxw := (cheap_in hxm).1
      have hok := ways_ok (i := i) (j := j) (es := es) hgc (by omega) x hxw
      have hfw := ways_fwd es cs i j hi hj x hxw
      rw [hxs] at hW4
      obtain ⟨a, as', rfl⟩ : ∃ a as', as = a :: as' := by
        cases as with
        | nil => have := hW4.len; simp at this
        | cons a as' => exact ⟨a, as', rfl⟩
      obtain ⟨st, ha, hst⟩ := hW4.item 0 a x rfl rfl
      have h4 := S4 _ _ h3
      refine ⟨lc, _, _, _, rfl, rfl, SqL.of hlc', atI_nat (j := 0) rfl, ?_⟩
      refine ⟨_, rfl, .inl ⟨rfl, _, SqL.of h4⟩, _, rfl, a, _, _, _, rfl, rfl, SqT.of ha, atI_nat (j := 0) rfl, l, _, _, rfl, rfl, h4, (by rw [List.length_map, hT.len]; exact fewer (by omega)), ?_⟩
      have keep : ∀ {b : Addr} {ys zs : List V}, H4 b = some (.tup ys) → upd H4 l (.lst zs) b = some (.tup ys) := fun {b ys zs} h => by
        rw [upd_ne (ne_of h h4 (by intro z; cases z))]; exact h
      refine ⟨_, rfl, a, _, _, _, rfl, rfl, SqT.of (keep ha), atI_nat (j := 1) rfl, ?_⟩
      refine ⟨_, rfl, a, _, _, _, rfl, rfl, SqT.of (keep ha), atI_nat (j := 2) rfl, ?_⟩
      refine ⟨(es.length - x.2.1) + (cs.length - x.2.2), by omega, ?_⟩
      rw [hW]
      refine ⟨x.2.1, x.2.2, ts ++ [st], sts ++ [x.1], _, rfl, hfw.1, hfw.2.1, rfl, by rw [upd_same, List.map_append]; rfl, ((hT.mono S4).app (TupsAt.one hst hok)).set h4, by rw [List.length_append]; show _ + 1 ≤ _; omega, fun r hr' => ?_, same_to (S3.trans S4) hl⟩
      rw [List.append_assoc]
      exact hto _ ⟨x, by rw [hxs]; rfl, rfl, hr'⟩
def spLs (K : PySem.W.Frag) : Sp := fun vs H Q _ => ∃ (p q r : Addr) (es cs : List Str) (pr : List Int), vs = [.ref p, .ref q, .ref r] ∧ SqT K H p (es.map V.str) ∧ SqT K H q (cs.map V.str) ∧ SqT K H r (pr.map V.int) ∧ (∀ z ∈ es, Good z) ∧ (∀ z ∈ cs, Good z) ∧ es.length ≤ 100 ∧ cs.length ≤ 100 ∧ pr.length = 7 ∧
  ∀ (H' : Hp) (x t tt : Addr) (ts : List Addr) (sts : List Sk) (R : Nat → Nat → Int) (ps : List Addr) (G : Nat → Nat → Int), Same H H' → H' x = some (.tup [.int (R 0 0), .ref t, .ref tt]) → H' t = some (.tup (ts.map V.ref)) → TupsAt H' ts sts → Rest (fun i st => price es i pr st) es.length cs.length (ways es cs) R → Told es cs pr R 0 0 sts → sts.length ≤ es.length + cs.length → NumsAt H' tt ps es.length cs.length G → Least (fun i st => price es i pr st) es.length cs.length (ways es cs) G → Q (.ref x) H'
theorem scLs : FnScope ["elder", "copy", "prices", "table"] ["elder", "copy", "prices"] (defScope sLs) := ⟨rfl, rfl, rfl, by decide +kernel, rfl, by decide +kernel, by decide +kernel⟩
theorem ok_ls {f gT gF : Addr} {fd dT dF : FuncData} (F : Fun K "least_slips" "least_slips" sLs f fd) (DT : Dfn K mg "price_table" sPtab gT dT ["elder", "copy", "prices"]) (GT : FnOk P w K mg base CX0 4 gT dT ["elder", "copy", "prices"] (spPtab K)) (DF : Dfn K mg "first_cheapest" sFC gF dF ["elder", "copy", "prices"]) (GF : FnOk P w K mg base CX0 4 gF dF ["elder", "copy", "prices"] (spFC K)) : FnOk P w K mg base CX0 5 f fd ["elder", "copy", "prices"] (spLs K) := by
  refine F.ok scLs (fun vs H Q E h => ?_) (fun cdv A outer s H vs Q E hr h => ?_)
  · obtain ⟨p, q, r, es, cs, pr, rfl, _⟩ := h
    rfl
  · obtain ⟨p, q0, r0, es, cs, pr, rfl, hp, hc, hpr, hge, hgc, hel, hcl, h7, q⟩ := h
    refine ⟨_, pss_cons (ps_set (i := 3) scLs.nd rfl (Or.inl rfl) (pe_call GT hr (by rfl) DT.at_ DT.fn.kp DT.bn .nil pass0 (pa_cons (pv 0) (pa_cons (pv 1) (pa_cons (pv 2) pa_nil)))))
      (pss_one (ps_ret (pe_tup (pa_cons (pe_ix ix_tup (pe_ix ix_tup (pv 3) (pe_un un_neg pe_int) (fun _ _ => rfl)) (pe_un un_neg pe_int) (fun _ _ => rfl)) (pa_cons (pe_call GF hr (by rfl) DF.at_ DF.fn.kp DF.bn .nil pass0 (pa_cons (pv 0) (pa_cons (pv 1) (pa_cons (pv 2) pa_nil)))) (pa_cons (pv 3) pa_nil)))))), ?_⟩
    refine ⟨_, rfl, _, rfl, _, rfl, p, q0, r0, es, cs, pr, rfl, hp, hc, hpr, hge, hgc, by omega, by omega, h7, fun H1 tt ps G S1 ht htl hrow hG => ?_⟩
    have hM : NumsAt H1 tt ps es.length cs.length G := ⟨ht, htl, hrow⟩
    obtain ⟨z1, az1, hz1, az2⟩ := nums_last hM
    refine ⟨_, rfl, _, rfl, tt, _, _, _, rfl, rfl, SqT.of hM.top, az1, _, rfl, z1, _, _, _, rfl, rfl, SqT.of hz1, az2, _, rfl, _, rfl, _, rfl, p, q0, r0, es, cs, pr, rfl, sameT S1 hp, sameT S1 hc, sameT S1 hpr, hge, hgc, hel, hcl, h7, fun H2 t ts sts R S2 ht2 hT hR hto hsl => ?_⟩
    obtain ⟨rl1, _⟩ := rest_least (ways_fwd es cs) hG hR
    refine ⟨_, rfl, few (by show 3 ≤ _; omega), fun x hx => ?_⟩
    have S3 := same_upd (o := .tup [.int (G es.length cs.length), .ref t, .ref tt]) hx
    exact q _ x t tt ts sts R ps G ((S1.trans S2).trans S3) (by rw [upd_same, rl1]) (S3 _ _ ht2) (hT.mono S3) hR hto hsl (hM.mono (S2.trans S3)) hG
theorem drop_one {cs : List Str} {j : Nat} (h : j < cs.length) : (cs.drop j).take 1 = [gt cs j] := by
  rw [List.drop_eq_getElem_cons h, List.take_succ_cons, List.take_zero]
  unfold gt
  rw [List.getElem?_eq_getElem h]
  rfl
theorem take_last {cs : List Str} {j : Nat} (h0 : 0 < j) (h : j ≤ cs.length) : (cs.take j).getLast? = some (gt cs (j - 1)) := by
  rw [List.getLast?_eq_getElem?, List.length_take, Nat.min_eq_left h, List.getElem?_take_of_lt (by omega)]
  exact gt_of (by omega)
theorem way_after {es cs : List Str} {i j : Nat} {x : Way} (h : x ∈ ways es cs i j) (hi : i ≤ es.length) (hj : j ≤ cs.length) : after es i (cs.take j).getLast? x.1 = some (x.2.1, (cs.drop j).take (x.2.2 - j)) := by
  have e1 : j + 1 - j = 1 := by omega
  have e2 : j + 2 - j = 2 := by omega
  unfold ways at h
  rcases List.mem_append.mp h with h | h
  · rcases List.mem_append.mp h with h | h
    · rcases List.mem_append.mp h with h | h
      · rcases List.mem_append.mp h with h | h
        · rcases List.mem_append.mp h with h | h
          · unfold w1 at h
            split at h
            · rename_i hij
              rw [List.mem_singleton.mp h]
              dsimp only
              rw [e1, drop_one hij.2]
              split
              · rename_i he
                unfold after
                rw [if_pos (show fitsB es i _ .keep = true from decide_eq_true hij.1)]
                show some (i + 1, [gt es i]) = _
                rw [he]
              · rename_i he
                unfold after
                rw [if_pos]
                · rfl
                · show (decide (i < es.length) && !decide (es[i]? = some (gt cs j))) = true
                  rw [decide_eq_true hij.1, some_dec hij.1, decide_eq_false he]
                  rfl
            · cases h
          · unfold w2 at h
            split at h
            · rename_i hij
              rw [List.mem_singleton.mp h]
              dsimp only
              rw [Nat.sub_self, List.take_zero]
              unfold after
              rw [if_pos (show fitsB es i _ .lose = true from decide_eq_true hij)]
              rfl
            · cases h
        · unfold w3 at h
          split at h
          · rename_i hij
            rw [List.mem_singleton.mp h]
            dsimp only
            rw [e1, drop_one hij]
            unfold after
            rw [if_pos (show fitsB es i _ (.add _) = true from rfl)]
            rfl
          · cases h
      · unfold w4 at h
        split at h
        · rename_i hij
          rw [List.mem_singleton.mp h]
          dsimp only
          rw [e1, drop_one hij.2.1, take_last hij.1 hj]
          unfold after
          rw [if_pos (show fitsB es i (some _) .twice = true from rfl)]
          show some (i + 0, [gt cs (j - 1)]) = _
          rw [hij.2.2]
          rfl
        · cases h
    · unfold w5 at h
      split at h
      · rename_i hs
        rw [List.mem_singleton.mp h]
        dsimp only
        rw [e2]
        unfold swapW at hs
        split at hs
        · rename_i h1
          split at hs
          · cases hs
          · rename_i h2
            rw [of_decide_eq_true hs]
            unfold after
            rw [if_pos]
            · rfl
            · show (decide (i + 1 < es.length) && !decide (es[i]? = es[i + 1]?)) = true
              rw [decide_eq_true h1, gt_of h1, some_dec (by omega : i < es.length), decide_eq_false h2]
              rfl
        · cases hs
      · cases h
  · unfold w6 at h
    obtain ⟨k, hk, rfl⟩ := List.mem_map.mp h
    dsimp only
    rw [Nat.sub_self, List.take_zero]
    have hk' := skips_in hk
    unfold after
    rw [if_pos]
    · rfl
    · show skipB es i k = true
      unfold skips at hk
      rw [if_neg (by omega)] at hk
      obtain ⟨n, hn, rfl⟩ := List.mem_map.mp hk
      have hn2 := of_decide_eq_true (List.mem_filter.mp hn).2
      unfold skipB
      rw [decide_eq_true ⟨hk'.2.2, hk'.2.1⟩, Bool.true_and]
      refine decide_eq_true ?_
      rw [gt_of (show i + (n + 1) - 1 < es.length by omega), gt_of (show i - 1 < es.length by omega), ← hn2]
      rfl
theorem told_walk {es cs : List Str} {pr : List Int} {R : Nat → Nat → Int} (hR : Rest (fun i st => price es i pr st) es.length cs.length (ways es cs) R) : ∀ (sts : List Sk) (i j : Nat) (pl : List Nat), i ≤ es.length → j ≤ cs.length → Told es cs pr R i j sts →
    ∃ pl', walk es sts (i, cs.take j, pl) = some (es.length, cs, pl ++ pl') ∧ pl'.length = sts.length ∧ cost es pr pl' sts = R i j
  | [], i, j, pl, hi, hj, h => by
    obtain ⟨rfl, rfl⟩ := h
    refine ⟨[], ?_, rfl, ?_⟩
    · rw [List.take_length, List.append_nil]; rfl
    · rw [hR.z]; rfl
  | st :: r, i, j, pl, hi, hj, h => by
    obtain ⟨x, hx, rfl, ht⟩ := h
    have hxm : x ∈ cheap es cs pr R i j := List.mem_of_mem_head? hx
    obtain ⟨hxw, hxe⟩ := cheap_in hxm
    have hf := ways_fwd es cs i j hi hj x hxw
    have ha := way_after hxw hi hj
    obtain ⟨pl', h1, h2, h3⟩ := told_walk hR r x.2.1 x.2.2 (pl ++ [i]) hf.1 hf.2.1 ht
    refine ⟨i :: pl', ?_, by rw [List.length_cons, List.length_cons, h2], ?_⟩
    · show (walk1 es (i, cs.take j, pl) x.1).bind (walk es r) = _
      have e : walk1 es (i, cs.take j, pl) x.1 = some (x.2.1, cs.take x.2.2, pl ++ [i]) := by
        unfold walk1
        rw [ha]
        show some (x.2.1, cs.take j ++ (cs.drop j).take (x.2.2 - j), pl ++ [i]) = _
        rw [← List.take_add, show j + (x.2.2 - j) = x.2.2 by omega]
      rw [e, Option.bind_some, h1, List.append_assoc]
      rfl
    · unfold cost
      rw [List.zip_cons_cons, List.map_cons, List.sum_cons, ← hxe, ← h3]
      rfl
theorem bits_cell {ns : List Int} (hb : ∀ m ∈ ns, Builtin.Int.intBits m ≤ 1048576) (k : Int) : Builtin.Int.intBits (cellD ns k) ≤ 1048576 := by
  unfold cellD
  cases e : ns[k.toNat]? with
  | none => show Builtin.Int.intBits 0 ≤ _; decide
  | some n => exact hb n (List.mem_of_getElem? e)
def spStir : Sp := fun vs H Q _ => ∃ c : Int, vs = [.int c] ∧ Builtin.Int.intBits c ≤ 1048576 ∧ ∀ v : Int, Q (.int v) H
theorem scStir : FnScope ["cell"] ["cell"] (defScope sStir) := ⟨rfl, rfl, rfl, by decide +kernel, rfl, by decide +kernel, by decide +kernel⟩
theorem ok_stir {f : Addr} {fd : FuncData} (F : Fun K "_law_stir" "_law_stir" sStir f fd) : FnOk P w K mg base CX0 1 f fd ["cell"] spStir := by
  refine Fun.okR F scStir (fun vs H Q E h => ?_) (fun cdv A outer s H vs Q Q2 E hr h hq => ?_)
  · obtain ⟨c, rfl, _⟩ := h
    rfl
  · obtain ⟨c, rfl, hb, q⟩ := h
    refine ⟨_, pss_one (ps_ret (pe_op op_mod (pe_op op_mulB (pv 0) pe_int) pe_int)), ?_⟩
    refine ⟨_, rfl, _, _, rfl, rfl, PyProof.Rows.mulOk_of_bits (n := 1000) hb (by decide +kernel) (by decide), _, _, rfl, rfl, (by show (0 : Int) < 170141183460469231731687303715884105727; decide), hq _ _ (Rst.same (Same.refl H) (q _))⟩
def spWord : Sp := fun vs H Q _ => ∃ a b : Int, vs = [.int a, .int b] ∧ ∀ z, Good z → Q (.str z) H
theorem scWord : FnScope ["seed", "code", "letters", "size", "rest", "word", "k", "step"] ["seed", "code"] (defScope sWord) := ⟨rfl, rfl, rfl, by decide +kernel, rfl, by decide +kernel, by decide +kernel⟩
theorem letter_at (r : Int) : ∃ c, atI (letters.cps.toList) (r % 26) = some c ∧ Al c := by
  have h0 : 0 ≤ r % 26 := Int.emod_nonneg _ (by decide)
  have h1 : r % 26 < 26 := Int.emod_lt_of_pos _ (by decide)
  have e : r % 26 = ((r % 26).toNat : Int) := by omega
  refine ⟨97 + (r % 26).toNat, ?_, al_mod _ (by omega)⟩
  rw [e]
  refine atI_nat ?_
  rw [letters_cps, List.getElem?_map, List.getElem?_range (by omega)]
  rfl
def Lets (z : Str) (n : Nat) : Prop := z.length = n ∧ ∀ c ∈ z.cps.toList, Al c
theorem lets_app {z : Str} {n c : Nat} (h : Lets z n) (hc : Al c) : Lets (z ++ ⟨#[c]⟩) (n + 1) := by
  refine ⟨by rw [app_len, h.1]; rfl, fun d hd => ?_⟩
  rw [app_list] at hd
  rcases List.mem_append.mp hd with hd | hd
  · exact h.2 d hd
  · have : d = c := by simpa using hd
    rw [this]; exact hc
theorem lets_good {z : Str} {n : Nat} (h : Lets z n) (h1 : 1 ≤ n) (h2 : n ≤ 12) : Good z := ⟨by rw [h.1]; exact h1, by rw [h.1]; exact h2, h.2⟩
theorem ok_word {f : Addr} {fd : FuncData} (F : Fun K "_law_word" "_law_word" sWord f fd) (mrange : mg "range" = none) : FnOk P w K mg base CX0 1 f fd ["seed", "code"] spWord := by
  refine Fun.okR F scWord (fun vs H Q E h => ?_) (fun cdv A outer s H vs Q Q2 E hr h hq => ?_)
  · obtain ⟨a, b, rfl, _⟩ := h
    rfl
  · obtain ⟨a, b, rfl, q⟩ := h
    refine ⟨_, pss_cons (ps_set (i := 2) scWord.nd rfl (Or.inl rfl) pe_str)
      (pss_cons (ps_set (i := 3) scWord.nd rfl (Or.inl rfl) (pe_op op_add pe_int (pe_op op_mod (pv 0) pe_int)))
      (pss_cons (ps_set (i := 4) scWord.nd rfl (Or.inl rfl) (pe_op op_fdiv (pv 0) pe_int))
      (pss_cons (ps_set (i := 5) scWord.nd rfl (Or.inl rfl) pe_str)
      (pss_cons (ps_for PassesOwn.never rfl (pi_range1 (by rfl) mrange (pa_cons (pv 3) pa_nil)) (pg_name (i := 6) scWord.nd rfl (Or.inl rfl)) (pss_cons (ps_set (i := 7) scWord.nd rfl (Or.inl rfl) pe_int)
      (pss_cons (ps_mid (ps_if (pt_cmpR op_eq (pv 6) (pe_op op_mod (pe_op op_fdiv (pv 1) pe_int) (pv 3)) (nomark _)) (pss_one (ps_set (i := 7) scWord.nd rfl (Or.inl rfl) (pe_op op_mod (pv 1) pe_int))) pss_nil))
      (pss_cons (ps_set (i := 5) scWord.nd rfl (Or.inl rfl) (pe_op op_add_str (pv 5) (pe_ix ix_str (pv 2) (pe_op op_mod (pe_op op_add (pv 4) (pv 7)) pe_int) (fun _ _ => rfl))))
      (pss_one (ps_set (i := 4) scWord.nd rfl (Or.inl rfl) (pe_op op_fdiv (pv 4) pe_int)))))))
      (pss_cons (ps_mid (ps_if (pw_and (pt_cmpR op_eq (pv 1) pe_int (nomark _)) (pw_and1 (pt_cmpR op_lt (pv 3) pe_int (nomark _)))).pt (pss_one (ps_set (i := 5) scWord.nd rfl (Or.inl rfl) (pe_op op_add_str (pv 5) pe_str))) pss_nil))
      (pss_one (ps_ret (pv 5)))))))), ?_⟩
    have m0 : 0 ≤ a % 12 := Int.emod_nonneg _ (by decide)
    have m1 : a % 12 < 12 := Int.emod_lt_of_pos _ (by decide)
    obtain ⟨n, hn⟩ : ∃ n : Nat, 1 + a % 12 = (n : Int) := ⟨(1 + a % 12).toNat, by omega⟩
    refine ⟨_, rfl, _, _, rfl, rfl, (by show (0 : Int) < 12; decide), _, _, rfl, rfl, ?_⟩
    refine ⟨_, rfl, _, _, rfl, rfl, ⟨by decide, by decide⟩, ?_⟩
    refine ⟨_, rfl, 1 + a % 12, rfl, by omega, by omega, ?_⟩
    refine for_range (n := (1 + a % 12).toNat) (fun i σ H2 => ∃ (z : Str) (r : Int) (v6 v7 : Option V), σ = [some (.int a), some (.int b), some (.str letters), some (.int (1 + a % 12)), some (.int r), some (.str z), v6, v7] ∧ H2 = H ∧ Lets z i)
      ⟨Str.ofString "", _, none, none, rfl, rfl, by decide +kernel, fun c hc => absurd hc (by rw [show (Str.ofString "").cps.toList = [] from by decide +kernel]; exact List.not_mem_nil)⟩ ?_ ?_
    · rintro i σ H2 hi ⟨z, r, v6, v7, rfl, rfl, hz⟩
      refine ⟨fun σ' H' => ∃ s7 : Int, σ' = [some (.int a), some (.int b), some (.str letters), some (.int (1 + a % 12)), some (.int r), some (.str z), some (.int (0 + ((i : Nat) : Int))), some (.int s7)] ∧ H' = H2, ?_, ?_⟩
      · refine ⟨_, rfl, _, rfl, _, _, rfl, rfl, ⟨by decide, by decide⟩, _, rfl, _, _, rfl, rfl, (by show (0 : Int) < 1 + a % 12; omega), rfl, _, rfl, ?_⟩
        refine ite2 (fun _ => ⟨_, rfl, _, _, rfl, rfl, (by show (0 : Int) < 3; decide), _, rfl, rfl⟩) (fun _ => ⟨_, rfl, rfl⟩)
      · rintro σ' H' ⟨s7, rfl, rfl⟩
        obtain ⟨c, hc, ac⟩ := letter_at (r + s7)
        refine ⟨_, rfl, _, rfl, _, rfl, _, rfl, _, _, rfl, rfl, _, _, rfl, rfl, (by show (0 : Int) < 26; decide), letters, _, c, rfl, rfl, (by decide +kernel), hc, _, _, rfl, rfl, few (by rw [hz.1]; show _ + 1 ≤ _; omega), ?_⟩
        exact ⟨_, rfl, _, _, rfl, rfl, ⟨by decide, by decide⟩, _, _, _, _, rfl, rfl, lets_app hz ac⟩
    · rintro σ H2 ⟨z, r, v6, v7, rfl, rfl, hz⟩
      refine ⟨fun σ' H' => ∃ (z' : Str) (v6' v7' : Option V), σ' = [some (.int a), some (.int b), some (.str letters), some (.int (1 + a % 12)), some (.int r), some (.str z'), v6', v7'] ∧ H' = H2 ∧ Good z', ?_, ?_⟩
      · have g0 : Good z := lets_good hz (by omega) (by omega)
        refine ⟨_, rfl, rfl, _, rfl, ?_⟩
        refine ite2 (fun _ => ?_) (fun _ => iteF ⟨z, v6, v7, rfl, rfl, g0⟩)
        refine ⟨_, rfl, _, _, rfl, rfl, _, rfl, ?_⟩
        refine ite2 (fun h12 => ?_) (fun _ => ⟨z, v6, v7, rfl, rfl, g0⟩)
        have h12 := of_decide_eq_true h12
        have hq1 := lets_app (c := 113) hz (by unfold Al; omega)
        have eq1 : Str.ofString "q" = (⟨#[113]⟩ : Str) := by decide +kernel
        refine ⟨_, rfl, _, _, rfl, rfl, few (by rw [hz.1, eq1]; show _ + 1 ≤ _; omega), _, _, _, rfl, rfl, ?_⟩
        rw [eq1]
        exact lets_good hq1 (by omega) (by omega)
      · rintro σ' H' ⟨z', v6', v7', rfl, rfl, hg⟩
        exact ⟨_, rfl, hq _ _ (Rst.same (Same.refl _) (q _ hg))⟩
theorem bits_mod (x : Int) : Builtin.Int.intBits (x % 170141183460469231731687303715884105727) ≤ 1048576 := by
  refine PyProof.Rows.bits_of_natAbs_le (b := 170141183460469231731687303715884105727) ?_ (by decide +kernel)
  have h0 : 0 ≤ x % 170141183460469231731687303715884105727 := Int.emod_nonneg _ (by decide)
  have h1 : x % 170141183460469231731687303715884105727 < 170141183460469231731687303715884105727 := Int.emod_lt_of_pos _ (by decide)
  omega
def spStirB : Sp := fun vs H Q _ => ∃ c : Int, vs = [.int c] ∧ Builtin.Int.intBits c ≤ 1048576 ∧ ∀ v : Int, Builtin.Int.intBits v ≤ 1048576 → Q (.int v) H
theorem ok_stirB {f : Addr} {fd : FuncData} (F : Fun K "_law_stir" "_law_stir" sStir f fd) : FnOk P w K mg base CX0 1 f fd ["cell"] spStirB := by
  refine Fun.okR F scStir (fun vs H Q E h => ?_) (fun cdv A outer s H vs Q Q2 E hr h hq => ?_)
  · obtain ⟨c, rfl, _⟩ := h
    rfl
  · obtain ⟨c, rfl, hb, q⟩ := h
    refine ⟨_, pss_one (ps_ret (pe_op op_mod (pe_op op_mulB (pv 0) pe_int) pe_int)), ?_⟩
    refine ⟨_, rfl, _, _, rfl, rfl, PyProof.Rows.mulOk_of_bits (n := 1000) hb (by decide +kernel) (by decide), _, _, rfl, rfl, (by show (0 : Int) < 170141183460469231731687303715884105727; decide), hq _ _ (Rst.same (Same.refl H) (q _ (bits_mod _)))⟩
theorem scNext : FnScope ["left"] ["left"] (defScope sNext) := ⟨rfl, rfl, rfl, by decide +kernel, rfl, by decide +kernel, by decide +kernel⟩
theorem ok_next {f : Addr} {fd : FuncData} (F : Fun K "_law_next" "_law_next" sNext f fd) : FnOk P w K mg base CX0 1 f fd ["left"] spStirB := by
  refine Fun.okR F scNext (fun vs H Q E h => ?_) (fun cdv A outer s H vs Q Q2 E hr h hq => ?_)
  · obtain ⟨c, rfl, _⟩ := h
    rfl
  · obtain ⟨c, rfl, hb, q⟩ := h
    refine ⟨_, pss_one (ps_ret (pe_op op_mod (pe_op op_mulB (pv 0) pe_int) pe_int)), ?_⟩
    refine ⟨_, rfl, _, _, rfl, rfl, PyProof.Rows.mulOk_of_bits (n := 1000) hb (by decide +kernel) (by decide), _, _, rfl, rfl, (by show (0 : Int) < 170141183460469231731687303715884105727; decide), hq _ _ (Rst.same (Same.refl H) (q _ (bits_mod _)))⟩
def spPrices : Sp := fun vs H Q _ => ∃ c : Int, vs = [.int c] ∧ Builtin.Int.intBits c ≤ 1048576 ∧ ∀ (H' : Hp) (p : Addr) (pr : List Int), Same H H' → H' p = some (.tup (pr.map V.int)) → pr.length = 7 → (∀ x ∈ pr, 0 ≤ x ∧ x ≤ 10 ^ 30) → Q (.ref p) H'
theorem scPrices : FnScope ["cell", "left", "prices", "k", "price"] ["cell"] (defScope sPrices) := ⟨rfl, rfl, rfl, by decide +kernel, rfl, by decide +kernel, by decide +kernel⟩
theorem ok_prices {f gS gN : Addr} {fd dS dN : FuncData} (F : Fun K "_law_prices" "_law_prices" sPrices f fd) (DS : Dfn K mg "_law_stir" sStir gS dS ["cell"]) (DN : Dfn K mg "_law_next" sNext gN dN ["left"]) (mrange : mg "range" = none) (mtup : mg "tuple" = none) : FnOk P w K mg base CX0 2 f fd ["cell"] spPrices := by
  have GS : FnOk P w K mg base CX0 1 gS dS ["cell"] spStirB := ok_stirB DS.fn
  have GN : FnOk P w K mg base CX0 1 gN dN ["left"] spStirB := ok_next DN.fn
  refine F.ok scPrices (fun vs H Q E h => ?_) (fun cdv A outer s H vs Q E hr h => ?_)
  · obtain ⟨c, rfl, _⟩ := h
    rfl
  · obtain ⟨c, rfl, hb, q⟩ := h
    refine ⟨_, pss_cons (ps_set (i := 1) scPrices.nd rfl (Or.inl rfl) (pe_call GS hr (by rfl) DS.at_ DS.fn.kp DS.bn .nil pass0 (pa_cons (pv 0) pa_nil)))
      (pss_cons (ps_set (i := 2) scPrices.nd rfl (Or.inl rfl) (pe_lst pa_nil))
      (pss_cons (ps_for PassesOwn.never rfl (pi_range1 (by rfl) mrange (pa_cons pe_int pa_nil)) (pg_name (i := 3) scPrices.nd rfl (Or.inl rfl))
        (pss_cons (ps_set (i := 4) scPrices.nd rfl (Or.inl rfl) (pe_op op_mod (pe_op op_fdiv (pv 1) pe_int) pe_int))
        (pss_cons (ps_mid (ps_if (pt_cmpR op_eq (pe_op op_mod (pv 1) pe_int) pe_int (nomark _)) (pss_one (ps_set (i := 4) scPrices.nd rfl (Or.inl rfl) (pe_op op_mod (pe_op op_fdiv (pv 1) pe_int) pe_int))) pss_nil))
        (pss_cons (ps_mid (ps_if (pw_and (pt_cmpR op_eq (pe_op op_mod (pv 1) pe_int) pe_int (nomark _)) (pw_and1 (pt_cmpR op_eq (pe_op op_mod (pv 0) pe_int) pe_int (nomark _)))).pt (pss_one (ps_set (i := 4) scPrices.nd rfl (Or.inl rfl) (pe_op op_mod (pe_op op_fdiv (pv 0) (pe_op op_add (pv 3) pe_int)) (pe_op op_add (pe_op op_pow pe_int pe_int) pe_int)))) pss_nil))
        (pss_cons (ps_expr (pe_bm PySem.F.plainAttrs_list PySem.F.slot_list_append PySem.F.type_list_append mt_append (pv 2) (pa_cons (pv 4) pa_nil)))
        (pss_one (ps_set (i := 1) scPrices.nd rfl (Or.inl rfl) (pe_call GN hr (by rfl) DN.at_ DN.fn.kp DN.bn .nil pass0 (pa_cons (pv 1) pa_nil)))))))))
      (pss_one (ps_ret (pe_callTy call_tuple_of (by rfl) mtup boot_tuple (pa_cons (pv 2) pa_nil)))))), ?_⟩
    have hM : (0 : Int) < 10 ^ 30 + 1 := by decide
    have h4 : (0 : Int) < 4 := by decide
    have h12 : (0 : Int) < 12 := by decide
    have h3 : (0 : Int) < 3 := by decide
    refine ⟨_, rfl, c, rfl, hb, fun v hv => ⟨Nat.zero_le _, fun l hl => ?_⟩⟩
    refine ⟨7, rfl, by decide, by decide, for_range (n := 7) (fun i σ H2 => ∃ (left : Int) (v3 v4 : Option V) (pr : List Int), σ = [some (.int c), some (.int left), some (.ref l), v3, v4] ∧ Builtin.Int.intBits left ≤ 1048576 ∧ H2 l = some (.lst (pr.map V.int)) ∧ Same H H2 ∧ pr.length = i ∧ ∀ x ∈ pr, 0 ≤ x ∧ x ≤ 10 ^ 30)
      ⟨v, none, none, [], rfl, hv, upd_same, same_upd hl, rfl, fun _ z => nomatch z⟩ ?_ ?_⟩
    · rintro i σ H2 hi ⟨left, v3, v4, pr, rfl, hlb, h2, S2, hpl, hall⟩
      refine ⟨_, rfl, _, _, rfl, rfl, ⟨by decide, by decide⟩, _, _, rfl, rfl, h4, ?_⟩
      have m4 : 0 ≤ left / 4 % 4 ∧ left / 4 % 4 ≤ 10 ^ 30 := ⟨Int.emod_nonneg _ (by decide), by have := Int.emod_lt_of_pos (left / 4) h4; omega⟩
      have m12 : 0 ≤ left / 4 % 12 ∧ left / 4 % 12 ≤ 10 ^ 30 := ⟨Int.emod_nonneg _ (by decide), by have := Int.emod_lt_of_pos (left / 4) h12; omega⟩
      refine ⟨fun σ' H' => H' = H2 ∧ ∃ x : Int, (0 ≤ x ∧ x ≤ 10 ^ 30) ∧ σ' = [some (.int c), some (.int left), some (.ref l), some (.int (0 + ((i : Nat) : Int))), some (.int x)], ?_, ?_⟩
      · refine ⟨_, rfl, _, _, rfl, rfl, h4, rfl, _, rfl, ite2 (fun _ => ?_) (fun _ => ⟨rfl, _, m4, rfl⟩)⟩
        exact ⟨_, rfl, _, _, rfl, rfl, ⟨by decide, by decide⟩, _, _, rfl, rfl, h12, rfl, _, m12, rfl⟩
      rintro σ' H' ⟨rfl, x, hx, rfl⟩
      refine ⟨fun σ'' H'' => H'' = H' ∧ ∃ x : Int, (0 ≤ x ∧ x ≤ 10 ^ 30) ∧ σ'' = [some (.int c), some (.int left), some (.ref l), some (.int (0 + ((i : Nat) : Int))), some (.int x)], ?_, ?_⟩
      · refine ⟨_, rfl, _, _, rfl, rfl, h4, rfl, _, rfl, ite2 (fun _ => ?_) (fun _ => iteF ⟨rfl, _, hx, rfl⟩)⟩
        refine ⟨_, rfl, _, _, rfl, rfl, h3, rfl, _, rfl, ite2 (fun _ => ?_) (fun _ => ⟨rfl, _, hx, rfl⟩)⟩
        refine ⟨_, rfl, _, rfl, _, _, rfl, rfl, _, _, rfl, rfl, ⟨by omega, by omega⟩, _, _, rfl, rfl, ⟨by decide, by decide, by decide⟩, _, _, rfl, rfl, _, _, rfl, rfl, hM, rfl, _, ⟨Int.emod_nonneg _ (by decide), ?_⟩, rfl⟩
        have := Int.emod_lt_of_pos (c / (0 + ((i : Nat) : Int) + 1)) hM
        exact Int.lt_add_one_iff.mp this
      rintro σ'' H'' ⟨rfl, y, hy, rfl⟩
      refine ⟨_, rfl, .inl ⟨rfl, _, SqL.of h2⟩, _, rfl, l, _, _, rfl, rfl, h2, (by rw [List.length_map]; exact fewer (by omega)), ?_⟩
      refine ⟨_, rfl, left, rfl, hlb, fun v2 hv2 => ⟨v2, _, _, pr ++ [y], rfl, hv2, by rw [upd_same, List.map_append]; rfl, same_to S2 hl, by rw [List.length_append, hpl]; rfl, fun z hz => ?_⟩⟩
      rcases List.mem_append.mp hz with hz | hz
      · exact hall z hz
      · rw [List.mem_singleton.mp hz]; exact hy
    · rintro σ H2 ⟨left, v3, v4, pr, rfl, hlb, h2, S2, hpl, hall⟩
      refine ⟨_, rfl, l, _, rfl, .inl ⟨SqL.of h2, fun t ht => ?_⟩⟩
      exact q _ t pr (S2.trans (same_upd ht)) upd_same hpl hall
theorem gt_more {es m : List Str} {d : Nat} (h : d < es.length) : gt (es ++ m) d = gt es d := by
  unfold gt
  rw [List.getElem?_append_left h]
theorem after_more {es : List Str} (m : List Str) {d : Nat} {last : Option Str} {st : Sk} {y : Nat × List Str} (h : after es d last st = some y) : after (es ++ m) d last st = some y := by
  unfold after at h ⊢
  have hl : (es ++ m).length = es.length + m.length := List.length_append
  split at h
  · rename_i hf
    cases h
    cases st with
    | keep =>
      have hd : d < es.length := of_decide_eq_true hf
      rw [if_pos (show fitsB (es ++ m) d last .keep = true from decide_eq_true (by omega))]
      show some (d + 1, [gt (es ++ m) d]) = some (d + 1, [gt es d])
      rw [gt_more hd]
    | lose =>
      have hd : d < es.length := of_decide_eq_true hf
      rw [if_pos (show fitsB (es ++ m) d last .lose = true from decide_eq_true (by omega))]
      rfl
    | twice =>
      rw [if_pos (show fitsB (es ++ m) d last .twice = true from hf)]
      rfl
    | add z =>
      rw [if_pos (show fitsB (es ++ m) d last (.add z) = true from rfl)]
      rfl
    | turn z =>
      obtain ⟨h1, h2⟩ := Bool.and_eq_true_iff.mp (show (decide (d < es.length) && !decide (es[d]? = some z)) = true from hf)
      have hd := of_decide_eq_true h1
      rw [if_pos (show fitsB (es ++ m) d last (.turn z) = true from by
        show (decide (d < (es ++ m).length) && !decide ((es ++ m)[d]? = some z)) = true
        rw [List.getElem?_append_left hd, h2, decide_eq_true (by omega)]
        rfl)]
      rfl
    | swap =>
      obtain ⟨h1, h2⟩ := Bool.and_eq_true_iff.mp (show (decide (d + 1 < es.length) && !decide (es[d]? = es[d + 1]?)) = true from hf)
      have hd := of_decide_eq_true h1
      rw [if_pos (show fitsB (es ++ m) d last .swap = true from by
        show (decide (d + 1 < (es ++ m).length) && !decide ((es ++ m)[d]? = (es ++ m)[d + 1]?)) = true
        rw [List.getElem?_append_left (show d < es.length by omega), List.getElem?_append_left hd, h2, decide_eq_true (by omega)]
        rfl)]
      show some (d + 2, [gt (es ++ m) (d + 1), gt (es ++ m) d]) = some (d + 2, [gt es (d + 1), gt es d])
      rw [gt_more hd, gt_more (show d < es.length by omega)]
    | skip n =>
      obtain ⟨h1, h2⟩ := Bool.and_eq_true_iff.mp (show (decide (1 ≤ d ∧ d + n ≤ es.length) && decide (es[d + n - 1]? = es[d - 1]?)) = true from hf)
      have hd := of_decide_eq_true h1
      rw [if_pos (show fitsB (es ++ m) d last (.skip n) = true from by
        show (decide (1 ≤ d ∧ d + n ≤ (es ++ m).length) && decide ((es ++ m)[d + n - 1]? = (es ++ m)[d - 1]?)) = true
        rw [List.getElem?_append_left (show d + n - 1 < es.length by omega), List.getElem?_append_left (show d - 1 < es.length by omega), h2, decide_eq_true (by omega)]
        rfl)]
      rfl
  · cases h
theorem walk_more {es : List Str} (m : List Str) : ∀ (sts : List Sk) (x : WS) {y : WS}, walk es sts x = some y → walk (es ++ m) sts x = some y
  | [], x, y, h => h
  | st :: r, x, y, h => by
    have h' : (walk1 es x st).bind (walk es r) = some y := h
    show (walk1 (es ++ m) x st).bind (walk (es ++ m) r) = some y
    cases ha : after es x.1 x.2.1.getLast? st with
    | none =>
      unfold walk1 at h'
      rw [ha] at h'
      cases h'
    | some u =>
      have e : walk1 (es ++ m) x st = walk1 es x st := by
        unfold walk1
        rw [after_more m ha, ha]
      rw [e]
      cases hw : walk1 es x st with
      | none => rw [hw] at h'; cases h'
      | some z =>
        rw [hw] at h'
        exact walk_more m r z h'
theorem walk_snoc {es : List Str} {sts : List Sk} {x : WS} {d : Nat} {cp : List Str} {pl : List Nat} {st : Sk} {y : Nat × List Str} (h : walk es sts x = some (d, cp, pl)) (ha : after es d cp.getLast? st = some y) : walk es (sts ++ [st]) x = some (y.1, cp ++ y.2, pl ++ [d]) := by
  rw [walk_append, h, Option.bind_some, walk_one]
  unfold walk1
  rw [ha]
  rfl
theorem gt_new (es : List Str) (a : Str) (r : List Str) : gt (es ++ a :: r) es.length = a := by
  unfold gt
  rw [List.getElem?_append_right (Nat.le_refl _), Nat.sub_self]
  rfl
theorem gt_new2 (es : List Str) (a b : Str) : gt (es ++ [a, b]) (es.length + 1) = b := by
  unfold gt
  rw [List.getElem?_append_right (by omega), Nat.add_sub_cancel_left]
  rfl
theorem len_one (es : List Str) (a : Str) : (es ++ [a]).length = es.length + 1 := by rw [List.length_append]; rfl
theorem len_two (es : List Str) (a b : Str) : (es ++ [a, b]).length = es.length + 2 := by rw [List.length_append]; rfl
theorem af_keep (es : List Str) (a : Str) (last : Option Str) : after (es ++ [a]) es.length last .keep = some ((es ++ [a]).length, [a]) := by
  unfold after
  rw [if_pos (show fitsB (es ++ [a]) es.length last .keep = true from decide_eq_true (by rw [len_one]; omega)), len_one]
  show some (es.length + 1, [gt (es ++ [a]) es.length]) = _
  rw [gt_new]
theorem af_lose (es : List Str) (a : Str) (last : Option Str) : after (es ++ [a]) es.length last .lose = some ((es ++ [a]).length, []) := by
  unfold after
  rw [if_pos (show fitsB (es ++ [a]) es.length last .lose = true from decide_eq_true (by rw [len_one]; omega)), len_one]
  rfl
theorem af_add (es : List Str) (a : Str) (last : Option Str) : after es es.length last (.add a) = some (es.length, [a]) := rfl
theorem af_twice (es : List Str) (z : Str) : after es es.length (some z) .twice = some (es.length, [z]) := rfl
theorem af_turn (es : List Str) {a b : Str} (last : Option Str) (h : a ≠ b) : after (es ++ [a]) es.length last (.turn b) = some ((es ++ [a]).length, [b]) := by
  unfold after
  rw [if_pos (show fitsB (es ++ [a]) es.length last (.turn b) = true from by
    show (decide (es.length < (es ++ [a]).length) && !decide ((es ++ [a])[es.length]? = some b)) = true
    rw [some_dec (by rw [len_one]; omega), gt_new, decide_eq_false h, decide_eq_true (by rw [len_one]; omega)]
    rfl), len_one]
  rfl
theorem af_swap (es : List Str) {a b : Str} (last : Option Str) (h : a ≠ b) : after (es ++ [a, b]) es.length last .swap = some ((es ++ [a, b]).length, [b, a]) := by
  unfold after
  rw [if_pos (show fitsB (es ++ [a, b]) es.length last .swap = true from by
    show (decide (es.length + 1 < (es ++ [a, b]).length) && !decide ((es ++ [a, b])[es.length]? = (es ++ [a, b])[es.length + 1]?)) = true
    rw [gt_of (show es.length + 1 < (es ++ [a, b]).length by rw [len_two]; omega), some_dec (by rw [len_two]; omega), gt_new, gt_new2, decide_eq_false h, decide_eq_true (by rw [len_two]; omega)]
    rfl), len_two]
  show some (es.length + 2, [gt (es ++ [a, b]) (es.length + 1), gt (es ++ [a, b]) es.length]) = _
  rw [gt_new, gt_new2]
theorem af_skip (es vs : List Str) {z : Str} (last : Option Str) (hz : es.getLast? = some z) : after (es ++ (vs ++ [z])) es.length last (.skip (vs ++ [z]).length) = some ((es ++ (vs ++ [z])).length, []) := by
  have hne : 1 ≤ es.length := by
    cases es with
    | nil => cases hz
    | cons x r => exact Nat.succ_le_succ (Nat.zero_le _)
  have hl : (vs ++ [z]).length = vs.length + 1 := len_one vs z
  have hl2 : (es ++ (vs ++ [z])).length = es.length + (vs.length + 1) := by rw [List.length_append, hl]
  unfold after
  rw [if_pos (show fitsB (es ++ (vs ++ [z])) es.length last (.skip (vs ++ [z]).length) = true from by
    show (decide (1 ≤ es.length ∧ es.length + (vs ++ [z]).length ≤ (es ++ (vs ++ [z])).length) && decide ((es ++ (vs ++ [z]))[es.length + (vs ++ [z]).length - 1]? = (es ++ (vs ++ [z]))[es.length - 1]?)) = true
    have e1 : (es ++ (vs ++ [z]))[es.length + (vs ++ [z]).length - 1]? = some z := by
      rw [List.getElem?_append_right (by omega), hl, show es.length + (vs.length + 1) - 1 - es.length = vs.length by omega, List.getElem?_append_right (Nat.le_refl _), Nat.sub_self]
      rfl
    have e2 : (es ++ (vs ++ [z]))[es.length - 1]? = some z := by
      rw [List.getElem?_append_left (by omega), ← List.getLast?_eq_getElem?]
      exact hz
    rw [e1, e2, decide_eq_true rfl, decide_eq_true (by rw [hl2, hl]; omega)]
    rfl)]
  show some (es.length + (vs ++ [z]).length, []) = _
  rw [hl2, hl]
def spEye (K : PySem.W.Frag) : Sp := fun vs H Q _ => ∃ (lE : Addr) (es : List Str) (a b c : Int), vs = [.ref lE, .int a, .int b, .int c] ∧ H lE = some (.lst (es.map V.str)) ∧ es ≠ [] ∧ (∀ z ∈ es, Good z) ∧ es.length ≤ 100000 ∧
  ∀ (H' : Hp) (l : Addr) (ws : List Str), Same H H' → H l = none → H' l = some (.lst (ws.map V.str)) → (∀ z ∈ ws, Good z) → 1 ≤ ws.length → ws.length ≤ 12 → (∃ vs z, ws = vs ++ [z] ∧ es.getLast? = some z) → (((es.length : Nat) : Int) + ((ws.length : Nat) : Int) ≤ c + 1 ∨ ws.length = 1) → Q (.ref l) H'
theorem scEye : FnScope ["elder", "left", "seed", "most", "many"] ["elder", "left", "seed", "most"] (defScope sEye) := ⟨rfl, rfl, rfl, by decide +kernel, rfl, by decide +kernel, by decide +kernel⟩
theorem nd_kls : (["k", "left", "seed"] : List Str).Nodup := by decide +kernel
theorem ok_eye {f gW : Addr} {fd dW : FuncData} (F : Fun K "_law_eye" "_law_eye" sEye f fd) (DW : Dfn K mg "_law_word" sWord gW dW ["seed", "code"]) (mlen : mg "len" = none) (mrange : mg "range" = none) (mmax : mg "max" = none) (mmin : mg "min" = none) : FnOk P w K mg base CX0 2 f fd ["elder", "left", "seed", "most"] (spEye K) := by
  have GW : FnOk P w K mg base CX0 1 gW dW ["seed", "code"] spWord := ok_word DW.fn mrange
  refine F.ok scEye (fun vs H Q E h => ?_) (fun cdv A outer s H vs Q E hr h => ?_)
  · obtain ⟨lE, es, a, b, c, rfl, _⟩ := h
    rfl
  · obtain ⟨lE, es, a, b, c, rfl, hE, hne, hg, hel, q⟩ := h
    refine ⟨_, pss_cons (ps_set (i := 4) scEye.nd rfl (Or.inl rfl) (pe_callB (call_max2 rfl) (by rfl) mmax boot_max (pa_cons pe_int (pa_cons (pe_callB (call_min2 rfl) (by rfl) mmin boot_min (pa_cons (pe_op op_mod (pe_op op_fdiv (pv 1) pe_int) pe_int) (pa_cons (pe_op op_sub (pv 3) (pe_callB call_len_seq (by rfl) mlen PySem.boot_len (pa_cons (pv 0) pa_nil))) pa_nil))) pa_nil))))
      (pss_one (ps_ret (pe_op op_cat (pe_comp (Nc := ["k", "left", "seed"]) (mp := [none, some 1, some 2]) rfl (CompOk.of (by rfl)) (pi_range1 (by rfl) mrange (pa_cons (pv 4) pa_nil)) (fun cl C s H fp => ⟨pg_name (i := 0) nd_kls rfl (Or.inl rfl), pts_nil, (pe_call GW hr (by rfl) DW.at_ DW.fn.kp DW.bn .nil pass0 (pa_cons (pv 2) (pa_cons (pe_op op_mod (pe_op op_add (pe_op op_fdiv (pv 1) pe_int) (pe_op op_mul (pe_op op_mul pe_int (pv 0)) (pv 0))) pe_int) pa_nil)))⟩)) (pe_lst (pa_cons (pe_ix ix_list (pv 0) (pe_un un_neg pe_int) (fun _ _ => rfl)) pa_nil))))), ?_⟩
    have m0 : 0 ≤ a / 9000 % 12 := Int.emod_nonneg _ (by decide)
    have m1 : a / 9000 % 12 < 12 := Int.emod_lt_of_pos _ (by decide)
    refine ⟨_, rfl, _, _, rfl, rfl, ⟨by decide, by decide⟩, _, _, rfl, rfl, (by show (0 : Int) < 12; decide), _, rfl, _, rfl, lE, _, rfl, .inl (SqL.of hE), _, _, rfl, rfl, _, _, rfl, _, _, rfl, ?_⟩
    obtain ⟨many, hmany⟩ : ∃ many : Int, many = (if (if c - ((es.map V.str).length : Int) < a / 9000 % 12 then c - ((es.map V.str).length : Int) else a / 9000 % 12) > 0 then (if c - ((es.map V.str).length : Int) < a / 9000 % 12 then c - ((es.map V.str).length : Int) else a / 9000 % 12) else 0) := ⟨_, rfl⟩
    have hm0 : 0 ≤ many ∧ many < 12 := by rw [hmany]; split <;> (split <;> omega)
    have hm1 : ((es.length : Nat) : Int) + many ≤ c ∨ many = 0 := by rw [hmany, List.length_map]; split <;> (split <;> omega)
    refine ⟨_, rfl, many, (by rw [hmany]), by omega, by omega, ?_⟩
    obtain ⟨n, hn⟩ : ∃ n : Nat, many = (n : Int) := ⟨many.toNat, by omega⟩
    have en : many.toNat = n := by omega
    rw [en]
    refine comp_grow (as := List.range n) (v := fun k => .int (0 + ((k : Nat) : Int))) (fun i acc H' => H' = H ∧ ∃ ws : List Str, acc = ws.map V.str ∧ ws.length = i ∧ ∀ z ∈ ws, Good z) (fun i acc H' _ ⟨e, _⟩ => by rw [e]; exact src_range 0 n H) (by rw [List.length_range]; exact few (by omega))
      ⟨rfl, [], rfl, rfl, fun _ z => nomatch z⟩ (fun i acc H' ⟨_, ws, e, hl, _⟩ => by rw [e, List.length_map, hl]) ?_ ?_
    · rintro i k acc H' hk ⟨rfl, ws, rfl, hl, hw⟩ kk hkk
      have hk' : k < 12 := by
        have := List.mem_range.mp (List.mem_of_getElem? hk)
        omega
      refine ⟨_, rfl, _, rfl, _, _, rfl, rfl, ⟨by decide, by decide⟩, _, rfl, _, _, rfl, rfl, .inl ⟨by decide, by decide⟩, _, rfl, _, _, rfl, rfl, .inr ⟨by show -(2 ^ 64) < 0 + ((k : Nat) : Int); omega, by show 0 + ((k : Nat) : Int) < 2 ^ 64; omega⟩, _, _, rfl, rfl, _, _, rfl, rfl, (by show (0 : Int) < 10; decide), _, _, rfl, fun z hz => hkk _ _ ⟨rfl, ws ++ [z], by rw [List.map_append]; rfl, by rw [List.length_append, hl]; rfl, fun y hy => ?_⟩⟩
      rcases List.mem_append.mp hy with hy | hy
      · exact hw y hy
      · rw [List.mem_singleton.mp hy]; exact hz
    · rintro acc H' ⟨rfl, ws, rfl, hl, hw⟩ D hD
      rw [List.length_range] at hl
      have SD := same_upd (o := .lst (ws.map V.str)) hD
      have hE1 := SD _ _ hE
      obtain ⟨z, ez, az⟩ := last_at (cp := es) (by rcases es with _ | ⟨x, r⟩; exact absurd rfl hne; simp)
      have gz : Good z := hg z (List.mem_of_getLast? ez)
      refine ⟨_, rfl, _, rfl, lE, _, _, _, rfl, rfl, SqL.of hE1, az, few (by show 1 ≤ _; omega), fun l2 hl2 => ?_⟩
      have S2 := same_upd (o := .lst [.str z]) hl2
      refine ⟨D, l2, _, _, rfl, rfl, S2 _ _ upd_same, upd_same, (by rw [List.length_map]; exact few (by show _ + 1 ≤ _; omega)), fun l3 hl3 => ?_⟩
      have S3 := same_upd (o := .lst (ws.map V.str ++ [.str z])) hl3
      refine q _ l3 (ws ++ [z]) ((SD.trans S2).trans S3) ((SD.trans S2).free hl3) (by rw [upd_same, List.map_append]; rfl) (fun y hy => ?_) (by rw [List.length_append]; show 1 ≤ _ + 1; omega) (by rw [List.length_append]; show _ + 1 ≤ _; omega) ⟨ws, z, rfl, ez⟩ (by rw [List.length_append]; show _ + (((ws.length + 1 : Nat)) : Int) ≤ _ ∨ ws.length + 1 = 1; omega)
      rcases List.mem_append.mp hy with hy | hy
      · exact hw y hy
      · rw [List.mem_singleton.mp hy]; exact gz
structure Tri (H H' : Hp) (lE lC lS : Addr) (es cs : List Str) (ss : List V) : Prop where
  fr : ∀ x o, x ≠ lE → x ≠ lC → x ≠ lS → H x = some o → H' x = some o
  e : H' lE = some (.lst (es.map V.str))
  c : H' lC = some (.lst (cs.map V.str))
  s : H' lS = some (.lst ss)
  ec : lE ≠ lC
  es_ : lE ≠ lS
  cs_ : lC ≠ lS
theorem Tri.ne {H H' : Hp} {lE lC lS : Addr} {es cs : List Str} {ss : List V} (t : Tri H H' lE lC lS es cs ss) (es2 : List Str) {xs : List V} (h : xs = es2.map V.str) : Tri H (upd H' lE (.lst xs)) lE lC lS es2 cs ss := by
  subst h
  exact ⟨fun x o n1 n2 n3 h => by rw [upd_ne n1]; exact t.fr x o n1 n2 n3 h, upd_same, by rw [upd_ne (Ne.symm t.ec)]; exact t.c, by rw [upd_ne (Ne.symm t.es_)]; exact t.s, t.ec, t.es_, t.cs_⟩
theorem Tri.nc {H H' : Hp} {lE lC lS : Addr} {es cs : List Str} {ss : List V} (t : Tri H H' lE lC lS es cs ss) (cs2 : List Str) {xs : List V} (h : xs = cs2.map V.str) : Tri H (upd H' lC (.lst xs)) lE lC lS es cs2 ss := by
  subst h
  exact ⟨fun x o n1 n2 n3 h => by rw [upd_ne n2]; exact t.fr x o n1 n2 n3 h, by rw [upd_ne t.ec]; exact t.e, upd_same, by rw [upd_ne (Ne.symm t.cs_)]; exact t.s, t.ec, t.es_, t.cs_⟩
theorem Tri.ns {H H' : Hp} {lE lC lS : Addr} {es cs : List Str} {ss : List V} (t : Tri H H' lE lC lS es cs ss) (ss2 : List V) : Tri H (upd H' lS (.lst ss2)) lE lC lS es cs ss2 :=
  ⟨fun x o n1 n2 n3 h => by rw [upd_ne n3]; exact t.fr x o n1 n2 n3 h, by rw [upd_ne t.es_]; exact t.e, by rw [upd_ne t.cs_]; exact t.c, upd_same, t.ec, t.es_, t.cs_⟩
theorem Tri.nw {H H' : Hp} {lE lC lS p : Addr} {es cs : List Str} {ss : List V} {o : HO} (t : Tri H H' lE lC lS es cs ss) (h : H' p = none) : Tri H (upd H' p o) lE lC lS es cs ss :=
  have S := same_upd (o := o) h
  ⟨fun x o n1 n2 n3 h => S _ _ (t.fr x o n1 n2 n3 h), S _ _ t.e, S _ _ t.c, S _ _ t.s, t.ec, t.es_, t.cs_⟩
theorem Tri.to {H H1 H' : Hp} {lE lC lS : Addr} {es cs es' cs' : List Str} {ss ss' : List V} (t : Tri H H1 lE lC lS es cs ss) (t' : Tri H1 H' lE lC lS es' cs' ss') : Tri H H' lE lC lS es' cs' ss' :=
  ⟨fun x o n1 n2 n3 h => t'.fr x o n1 n2 n3 (t.fr x o n1 n2 n3 h), t'.e, t'.c, t'.s, t'.ec, t'.es_, t'.cs_⟩
theorem good_app {xs ys : List Str} (h : ∀ z ∈ xs, Good z) (h2 : ∀ z ∈ ys, Good z) : ∀ z ∈ xs ++ ys, Good z := fun z hz => by
  rcases List.mem_append.mp hz with hz | hz
  · exact h z hz
  · exact h2 z hz
theorem good_one {a : Str} (h : Good a) : ∀ z ∈ [a], Good z := fun z hz => by rw [List.mem_singleton.mp hz]; exact h
theorem good_two {a b : Str} (h : Good a) (h2 : Good b) : ∀ z ∈ [a, b], Good z := good_app (good_one h) (good_one h2)
theorem pss_as {X : Cx} {sts : List Stmt} {t : TS} (t' : TS) (h : PSs X sts t) (hw : ∀ D σ H, t' D σ H → t D σ H) : PSs X sts t' := fun pins s σ H D I hh => h pins s σ H D I (hw D σ H hh)
theorem ne_test {a b : Str} (h : (!decide (V.str a = V.str b)) = true) : a ≠ b := fun e => by
  rw [e, decide_eq_true rfl] at h
  exact Bool.false_ne_true h
theorem Tri.tup {H H3 : Hp} {lE lC lS t : Addr} {es cs : List Str} {ss ss2 : List V} {o : HO} (T : Tri H H3 lE lC lS es cs ss) (ht : H3 t = none) : upd (upd H3 t o) lS (.lst ss2) t = some o := by
  rw [upd_ne (fun z => by rw [z, T.s] at ht; cases ht), upd_same]
def spSlip (K : PySem.W.Frag) : Sp := fun vs H Q _ => ∃ (lE lC lS lW : Addr) (es cs : List Str) (ss : List V) (n : Int) (a b : Str), vs = [.ref lE, .ref lC, .ref lS, .int n, .ref lW] ∧ Tri H H lE lC lS es cs ss ∧ H lW = some (.lst [.str a, .str b]) ∧ Good a ∧ Good b ∧ (∀ z ∈ es, Good z) ∧ (∀ z ∈ cs, Good z) ∧ es.length ≤ 10000 ∧ cs.length ≤ 10000 ∧ ss.length ≤ 10000 ∧
  ∀ (H' : Hp) (es' cs' : List Str) (t : Addr) (st : Sk) (ws : List Str), Tri H H' lE lC lS es' cs' (ss ++ [.ref t]) → H' t = some (.tup (stepV st)) → okS st → (∃ m, es' = es ++ m) → after es' es.length cs.getLast? st = some (es'.length, ws) → cs' = cs ++ ws → (∀ z ∈ es', Good z) → (∀ z ∈ cs', Good z) → es'.length ≤ es.length + 2 → cs'.length ≤ cs.length + 2 → Q .non H'
theorem scSlip : FnScope ["elder", "copy", "steps", "left", "words", "word", "other", "way"] ["elder", "copy", "steps", "left", "words"] (defScope sSlip) := ⟨rfl, rfl, rfl, by decide +kernel, rfl, by decide +kernel, by decide +kernel⟩
theorem ok_slip {f : Addr} {fd : FuncData} (F : Fun K "_law_slip" "_law_slip" sSlip f fd) : FnOk P w K mg base CX0 1 f fd ["elder", "copy", "steps", "left", "words"] (spSlip K) := by
  refine F.ok scSlip (fun vs H Q E h => ?_) (fun cdv A outer s H vs Q E hr h => ?_)
  · obtain ⟨lE, lC, lS, lW, es, cs, ss, n, a, b, rfl, _⟩ := h
    rfl
  · obtain ⟨lE, lC, lS, lW, es, cs, ss, n, a, b, rfl, T, hW, ga, gb, ge, gc, le, lc, ls, q⟩ := h
    have z1 : (1 : Nat) ≤ sizeLine := few (by omega)
    have z2 : (2 : Nat) ≤ sizeLine := few (by omega)
    have la : ∀ (xs : List Str), xs.length ≤ 20000 → (xs.map V.str).length < sizeLine := fun xs h => by rw [List.length_map]; exact fewer (by omega)
    have l2 : ∀ (xs : List Str), xs.length ≤ 20000 → (xs.map V.str).length + 2 ≤ sizeLine := fun xs h => by rw [List.length_map]; exact few (by omega)
    have lss : ss.length < sizeLine := fewer (by omega)
    let tG : TS := fun D σ H1 => σ = [some (.ref lE), some (.ref lC), some (.ref lS), some (.int n), some (.ref lW), some (.str a), some (.str b), some (.int (n % 9))] ∧ Tri H H1 lE lC lS es cs ss ∧ ∀ (H' : Hp) (es' cs' : List Str) (t : Addr) (st : Sk) (ws : List Str), Tri H H' lE lC lS es' cs' (ss ++ [.ref t]) → H' t = some (.tup (stepV st)) → okS st → (∃ m, es' = es ++ m) → after es' es.length cs.getLast? st = some (es'.length, ws) → cs' = cs ++ ws → (∀ z ∈ es', Good z) → (∀ z ∈ cs', Good z) → es'.length ≤ es.length + 2 → cs'.length ≤ cs.length + 2 → D.nx [some (.ref lE), some (.ref lC), some (.ref lS), some (.int n), some (.ref lW), some (.str a), some (.str b), some (.int (n % 9))] H'
    refine ⟨_, pss_cons (ps_set (i := 5) scSlip.nd rfl (Or.inl rfl) (pe_ix ix_list (pv 4) pe_int (fun _ _ => rfl)))
      (pss_cons (ps_set (i := 6) scSlip.nd rfl (Or.inl rfl) (pe_ix ix_list (pv 4) pe_int (fun _ _ => rfl)))
      (pss_cons (ps_set (i := 7) scSlip.nd rfl (Or.inl rfl) (pe_op op_mod (pv 3) pe_int))
      (pss_as tG (pss_one (ps_if (pw_and (pt_cmpR op_eq (pv 7) pe_int (nomark _)) (pw_and1 (pt_cmpR op_ne (pv 5) (pv 6) (nomark _)))).pt (pss_cons (ps_expr (pe_bm PySem.F.plainAttrs_list PySem.F.slot_list_append PySem.F.type_list_append mt_append (pv 0) (pa_cons (pv 5) pa_nil)))
      (pss_cons (ps_expr (pe_bm PySem.F.plainAttrs_list PySem.F.slot_list_append PySem.F.type_list_append mt_append (pv 1) (pa_cons (pv 6) pa_nil)))
      (pss_one (ps_expr (pe_bm PySem.F.plainAttrs_list PySem.F.slot_list_append PySem.F.type_list_append mt_append (pv 2) (pa_cons (pe_tup (pa_cons pe_str (pa_cons (pv 6) pa_nil))) pa_nil)))))) (pss_as tG (pss_one (ps_if (pt_cmpR op_eq (pv 7) pe_int (nomark _)) (pss_cons (ps_expr (pe_bm PySem.F.plainAttrs_list PySem.F.slot_list_append PySem.F.type_list_append mt_append (pv 0) (pa_cons (pv 5) pa_nil)))
      (pss_one (ps_expr (pe_bm PySem.F.plainAttrs_list PySem.F.slot_list_append PySem.F.type_list_append mt_append (pv 2) (pa_cons (pe_tup (pa_cons pe_str pa_nil)) pa_nil))))) (pss_as tG (pss_one (ps_if (pt_cmpR op_eq (pv 7) pe_int (nomark _)) (pss_cons (ps_expr (pe_bm PySem.F.plainAttrs_list PySem.F.slot_list_append PySem.F.type_list_append mt_append (pv 1) (pa_cons (pv 5) pa_nil)))
      (pss_one (ps_expr (pe_bm PySem.F.plainAttrs_list PySem.F.slot_list_append PySem.F.type_list_append mt_append (pv 2) (pa_cons (pe_tup (pa_cons pe_str (pa_cons (pv 5) pa_nil))) pa_nil))))) (pss_as tG (pss_one (ps_if (pw_and (pt_cmpR op_eq (pv 7) pe_int (nomark _)) (pw_and1 (pt_cmpR (op_neS hr.units) (pv 1) (pe_lst pa_nil) (nomark _)))).pt (pss_cons (ps_expr (pe_bm PySem.F.plainAttrs_list PySem.F.slot_list_append PySem.F.type_list_append mt_append (pv 1) (pa_cons (pe_ix ix_list (pv 1) (pe_un un_neg pe_int) (fun _ _ => rfl)) pa_nil)))
      (pss_one (ps_expr (pe_bm PySem.F.plainAttrs_list PySem.F.slot_list_append PySem.F.type_list_append mt_append (pv 2) (pa_cons (pe_tup (pa_cons pe_str pa_nil)) pa_nil))))) (pss_as tG (pss_one (ps_if (pw_and (pt_cmpR op_eq (pv 7) pe_int (nomark _)) (pw_and1 (pt_cmpR op_ne (pv 5) (pv 6) (nomark _)))).pt (pss_cons (ps_expr (pe_bm PySem.F.plainAttrs_list PySem.F.slot_list_extend PySem.F.type_list_extend mt_extend (pv 0) (pa_cons (pe_lst (pa_cons (pv 5) (pa_cons (pv 6) pa_nil))) pa_nil)))
      (pss_cons (ps_expr (pe_bm PySem.F.plainAttrs_list PySem.F.slot_list_extend PySem.F.type_list_extend mt_extend (pv 1) (pa_cons (pe_lst (pa_cons (pv 6) (pa_cons (pv 5) pa_nil))) pa_nil)))
      (pss_one (ps_expr (pe_bm PySem.F.plainAttrs_list PySem.F.slot_list_append PySem.F.type_list_append mt_append (pv 2) (pa_cons (pe_tup (pa_cons pe_str pa_nil)) pa_nil)))))) (pss_as tG (pss_cons (ps_expr (pe_bm PySem.F.plainAttrs_list PySem.F.slot_list_append PySem.F.type_list_append mt_append (pv 0) (pa_cons (pv 5) pa_nil)))
      (pss_cons (ps_expr (pe_bm PySem.F.plainAttrs_list PySem.F.slot_list_append PySem.F.type_list_append mt_append (pv 1) (pa_cons (pv 5) pa_nil)))
      (pss_one (ps_expr (pe_bm PySem.F.plainAttrs_list PySem.F.slot_list_append PySem.F.type_list_append mt_append (pv 2) (pa_cons (pe_tup (pa_cons pe_str pa_nil)) pa_nil)))))) (by
      rintro D σ H1 ⟨rfl, T1, fin⟩
      refine ⟨_, rfl, .inl ⟨rfl, _, SqL.of T1.e⟩, _, rfl, lE, _, _, rfl, rfl, T1.e, la es (by omega), ?_⟩
      have T2 := T1.ne (es ++ [a]) (xs := es.map V.str ++ [.str a]) (by rw [List.map_append]; rfl)
      refine ⟨_, rfl, .inl ⟨rfl, _, SqL.of T2.c⟩, _, rfl, lC, _, _, rfl, rfl, T2.c, la cs (by omega), ?_⟩
      have T3 := T2.nc (cs ++ [a]) (xs := cs.map V.str ++ [.str a]) (by rw [List.map_append]; rfl)
      refine ⟨_, rfl, .inl ⟨rfl, _, SqL.of T3.s⟩, z1, fun t ht => ⟨lS, _, _, rfl, rfl, (T3.nw ht).s, lss, ?_⟩⟩
      exact fin _ (es ++ [a]) (cs ++ [a]) t .keep [a] ((T3.nw ht).ns _) (T3.tup ht) trivial ⟨[a], rfl⟩ (af_keep es a _) rfl (good_app ge (good_one ga)) (good_app gc (good_one ga)) (by rw [List.length_append]; show _ + 1 ≤ _; omega) (by rw [List.length_append]; show _ + 1 ≤ _; omega))))) (by
      rintro D σ H1 ⟨rfl, T1, fin⟩
      refine ⟨_, rfl, rfl, _, rfl, ?_⟩
      refine ite2 (fun _ => ?_) (fun _ => iteF ⟨rfl, T1, fin⟩)
      refine ⟨_, rfl, _, rfl, rfl, _, rfl, ?_⟩
      refine ite2 (fun hab => ?_) (fun _ => ⟨rfl, T1, fin⟩)
      refine ⟨_, rfl, .inl ⟨rfl, _, SqL.of T1.e⟩, _, rfl, _, rfl, z2, fun l1 hl1 => ⟨lE, l1, _, _, rfl, rfl, (T1.nw hl1).e, upd_same, l2 es (by omega), ?_⟩⟩
      have T2 := (T1.nw (o := .lst [.str a, .str b]) hl1).ne (es ++ [a, b]) (xs := es.map V.str ++ [.str a, .str b]) (by rw [List.map_append]; rfl)
      refine ⟨_, rfl, .inl ⟨rfl, _, SqL.of T2.c⟩, _, rfl, _, rfl, z2, fun l3 hl3 => ⟨lC, l3, _, _, rfl, rfl, (T2.nw hl3).c, upd_same, l2 cs (by omega), ?_⟩⟩
      have T3 := (T2.nw (o := .lst [.str b, .str a]) hl3).nc (cs ++ [b, a]) (xs := cs.map V.str ++ [.str b, .str a]) (by rw [List.map_append]; rfl)
      refine ⟨_, rfl, .inl ⟨rfl, _, SqL.of T3.s⟩, z1, fun t ht => ⟨lS, _, _, rfl, rfl, (T3.nw ht).s, lss, ?_⟩⟩
      exact fin _ (es ++ [a, b]) (cs ++ [b, a]) t .swap [b, a] ((T3.nw ht).ns _) (T3.tup ht) trivial ⟨[a, b], rfl⟩ (af_swap es _ (ne_test hab)) rfl (good_app ge (good_two ga gb)) (good_app gc (good_two gb ga)) (by rw [List.length_append]; show _ + 2 ≤ _; omega) (by rw [List.length_append]; show _ + 2 ≤ _; omega))))) (by
      rintro D σ H1 ⟨rfl, T1, fin⟩
      refine ⟨_, rfl, rfl, _, rfl, ?_⟩
      refine ite2 (fun _ => ?_) (fun _ => iteF ⟨rfl, T1, fin⟩)
      refine ⟨_, rfl, Nat.zero_le _, fun l0 hl0 => ?_⟩
      have T2 := T1.nw (o := .lst []) hl0
      refine ⟨0, decide (cs = []), by decide, EqS.strs (ys := []) (.inl ⟨SqL.of T2.c, SqL.of upd_same⟩), _, rfl, ?_⟩
      by_cases h0 : cs = []
      · rw [decide_eq_true h0]
        exact iteF ⟨rfl, T2, fin⟩
      · rw [decide_eq_false h0]
        obtain ⟨z, ez, az⟩ := last_at (cp := cs) (by rcases cs with _ | ⟨x, r⟩; exact absurd rfl h0; simp)
        have gz : Good z := gc z (List.mem_of_getLast? ez)
        refine iteT ⟨_, rfl, .inl ⟨rfl, _, SqL.of T2.c⟩, _, rfl, _, rfl, lC, _, _, _, rfl, rfl, SqL.of T2.c, az, lC, _, _, rfl, rfl, T2.c, la cs (by omega), ?_⟩
        have T3 := T2.nc (cs ++ [z]) (xs := cs.map V.str ++ [.str z]) (by rw [List.map_append]; rfl)
        refine ⟨_, rfl, .inl ⟨rfl, _, SqL.of T3.s⟩, z1, fun t ht => ⟨lS, _, _, rfl, rfl, (T3.nw ht).s, lss, ?_⟩⟩
        exact fin _ es (cs ++ [z]) t .twice [z] ((T3.nw ht).ns _) (T3.tup ht) trivial ⟨[], (List.append_nil es).symm⟩ (by rw [ez]; exact af_twice es z) rfl ge (good_app gc (good_one gz)) (by omega) (by rw [List.length_append]; show _ + 1 ≤ _; omega))))) (by
      rintro D σ H1 ⟨rfl, T1, fin⟩
      refine ⟨_, rfl, rfl, _, rfl, ?_⟩
      refine ite2 (fun _ => ?_) (fun _ => ⟨rfl, T1, fin⟩)
      refine ⟨_, rfl, .inl ⟨rfl, _, SqL.of T1.c⟩, _, rfl, lC, _, _, rfl, rfl, T1.c, la cs (by omega), ?_⟩
      have T3 := T1.nc (cs ++ [a]) (xs := cs.map V.str ++ [.str a]) (by rw [List.map_append]; rfl)
      refine ⟨_, rfl, .inl ⟨rfl, _, SqL.of T3.s⟩, _, rfl, z2, fun t ht => ⟨lS, _, _, rfl, rfl, (T3.nw ht).s, lss, ?_⟩⟩
      exact fin _ es (cs ++ [a]) t (.add a) [a] ((T3.nw ht).ns _) (T3.tup ht) ga ⟨[], (List.append_nil es).symm⟩ (af_add es a _) rfl ge (good_app gc (good_one ga)) (by omega) (by rw [List.length_append]; show _ + 1 ≤ _; omega))))) (by
      rintro D σ H1 ⟨rfl, T1, fin⟩
      refine ⟨_, rfl, rfl, _, rfl, ?_⟩
      refine ite2 (fun _ => ?_) (fun _ => ⟨rfl, T1, fin⟩)
      refine ⟨_, rfl, .inl ⟨rfl, _, SqL.of T1.e⟩, _, rfl, lE, _, _, rfl, rfl, T1.e, la es (by omega), ?_⟩
      have T3 := T1.ne (es ++ [a]) (xs := es.map V.str ++ [.str a]) (by rw [List.map_append]; rfl)
      refine ⟨_, rfl, .inl ⟨rfl, _, SqL.of T3.s⟩, z1, fun t ht => ⟨lS, _, _, rfl, rfl, (T3.nw ht).s, lss, ?_⟩⟩
      exact fin _ (es ++ [a]) cs t .lose [] ((T3.nw ht).ns _) (T3.tup ht) trivial ⟨[a], rfl⟩ (af_lose es a _) (List.append_nil cs).symm (good_app ge (good_one ga)) gc (by rw [List.length_append]; show _ + 1 ≤ _; omega) (by omega))))) (by
      rintro D σ H1 ⟨rfl, T1, fin⟩
      refine ⟨_, rfl, rfl, _, rfl, ?_⟩
      refine ite2 (fun _ => ?_) (fun _ => iteF ⟨rfl, T1, fin⟩)
      refine ⟨_, rfl, _, rfl, rfl, _, rfl, ?_⟩
      refine ite2 (fun hab => ?_) (fun _ => ⟨rfl, T1, fin⟩)
      refine ⟨_, rfl, .inl ⟨rfl, _, SqL.of T1.e⟩, _, rfl, lE, _, _, rfl, rfl, T1.e, la es (by omega), ?_⟩
      have T2 := T1.ne (es ++ [a]) (xs := es.map V.str ++ [.str a]) (by rw [List.map_append]; rfl)
      refine ⟨_, rfl, .inl ⟨rfl, _, SqL.of T2.c⟩, _, rfl, lC, _, _, rfl, rfl, T2.c, la cs (by omega), ?_⟩
      have T3 := T2.nc (cs ++ [b]) (xs := cs.map V.str ++ [.str b]) (by rw [List.map_append]; rfl)
      refine ⟨_, rfl, .inl ⟨rfl, _, SqL.of T3.s⟩, _, rfl, z2, fun t ht => ⟨lS, _, _, rfl, rfl, (T3.nw ht).s, lss, ?_⟩⟩
      exact fin _ (es ++ [a]) (cs ++ [b]) t (.turn b) [b] ((T3.nw ht).ns _) (T3.tup ht) gb ⟨[a], rfl⟩ (af_turn es _ (ne_test hab)) rfl (good_app ge (good_one ga)) (good_app gc (good_one gb)) (by rw [List.length_append]; show _ + 1 ≤ _; omega) (by rw [List.length_append]; show _ + 1 ≤ _; omega))))), ?_⟩
    refine ⟨_, rfl, lW, _, _, _, rfl, rfl, SqL.of hW, rfl, ?_⟩
    refine ⟨_, rfl, lW, _, _, _, rfl, rfl, SqL.of hW, rfl, ?_⟩
    refine ⟨_, rfl, _, _, rfl, rfl, (by show (0 : Int) < 9; decide), ?_⟩
    exact ⟨rfl, T, q⟩
theorem Tri.sm {H H1 H2 : Hp} {lE lC lS : Addr} {es cs : List Str} {ss : List V} (t : Tri H H1 lE lC lS es cs ss) (S : Same H1 H2) : Tri H H2 lE lC lS es cs ss :=
  ⟨fun x o n1 n2 n3 h => S _ _ (t.fr x o n1 n2 n3 h), S _ _ t.e, S _ _ t.c, S _ _ t.s, t.ec, t.es_, t.cs_⟩
theorem Tri.self {H H1 : Hp} {lE lC lS : Addr} {es cs : List Str} {ss : List V} (t : Tri H H1 lE lC lS es cs ss) : Tri H1 H1 lE lC lS es cs ss := ⟨fun _ _ _ _ _ h => h, t.e, t.c, t.s, t.ec, t.es_, t.cs_⟩
theorem Tri.same {H H0 H2 : Hp} {lE lC lS : Addr} {es cs : List Str} {ss : List V} (t : Tri H0 H2 lE lC lS es cs ss) (S : Same H H0) (h1 : H lE = none) (h2 : H lC = none) (h3 : H lS = none) : Same H H2 := fun x o h =>
  t.fr x o (fun e => by rw [e, h1] at h; cases h) (fun e => by rw [e, h2] at h; cases h) (fun e => by rw [e, h3] at h; cases h) (S x o h)
def Wk (H : Hp) (es cs : List Str) (ss : List V) : Prop := ∃ (ts : List Addr) (sts : List Sk) (pl : List Nat), ss = ts.map V.ref ∧ TupsAt H ts sts ∧ walk es sts (0, [], []) = some (es.length, cs, pl)
theorem Wk.mono {H H' : Hp} {es cs : List Str} {ss : List V} (h : Wk H es cs ss) (m : ∀ t xs, H t = some (.tup xs) → H' t = some (.tup xs)) : Wk H' es cs ss := by
  obtain ⟨ts, sts, pl, e, hT, hw⟩ := h
  exact ⟨ts, sts, pl, e, ⟨hT.len, fun i t st e1 e2 => ⟨m _ _ (hT.item i t st e1 e2).1, (hT.item i t st e1 e2).2⟩⟩, hw⟩
theorem Wk.same {H H' : Hp} {es cs : List Str} {ss : List V} (h : Wk H es cs ss) (S : Same H H') : Wk H' es cs ss := h.mono fun _ _ e => S _ _ e
theorem Wk.step {H H' : Hp} {es cs es' cs' ws : List Str} {ss : List V} {t : Addr} {st : Sk} (h : Wk H es cs ss) (m : ∀ t xs, H t = some (.tup xs) → H' t = some (.tup xs)) (ht : H' t = some (.tup (stepV st))) (ho : okS st) (hm : ∃ m, es' = es ++ m) (ha : after es' es.length cs.getLast? st = some (es'.length, ws)) (hc : cs' = cs ++ ws) : Wk H' es' cs' (ss ++ [.ref t]) := by
  obtain ⟨ts, sts, pl, rfl, hT, hw⟩ := h.mono m
  obtain ⟨mm, rfl⟩ := hm
  subst hc
  exact ⟨ts ++ [t], sts ++ [st], pl ++ [es.length], by rw [List.map_append]; rfl, hT.app (TupsAt.one ht ho), walk_snoc (walk_more mm sts _ hw) ha⟩
theorem Tri.tups {H0 H1 H' : Hp} {lE lC lS : Addr} {es cs es' cs' : List Str} {ss ss' : List V} (T : Tri H0 H1 lE lC lS es cs ss) (T' : Tri H1 H' lE lC lS es' cs' ss') : ∀ t xs, H1 t = some (.tup xs) → H' t = some (.tup xs) := fun t xs h =>
  T'.fr t _ (fun z => by rw [z, T.e] at h; cases h) (fun z => by rw [z, T.c] at h; cases h) (fun z => by rw [z, T.s] at h; cases h) h
def spPair (K : PySem.W.Frag) : Sp := fun vs H Q _ => ∃ (lc : Addr) (ns : List Int) (a b : Int), vs = [.ref lc, .int a, .int b] ∧ SqL K H lc (ns.map V.int) ∧ (∀ m ∈ ns, Builtin.Int.intBits m ≤ 1048576) ∧ ns.length ≤ 63 ∧
  0 ≤ b ∧ ∀ (H' : Hp) (r e c s : Addr) (es cs : List Str) (ss : List V), Same H H' → H' r = some (.tup [.ref e, .ref c, .ref s]) → H' e = some (.tup (es.map V.str)) → H' c = some (.tup (cs.map V.str)) → (∀ z ∈ es, Good z) → (∀ z ∈ cs, Good z) → H' s = some (.tup ss) → Wk H' es cs ss → ((es.length : Nat) : Int) ≤ b + 1 + 2 * ((ns.length : Nat) : Int) → cs.length ≤ 2 * ns.length → ss.length ≤ ns.length → Q (.ref r) H'
theorem scPair : FnScope ["cells", "seed", "most", "elder", "copy", "steps", "cell", "left", "lost", "words"] ["cells", "seed", "most"] (defScope sPair) := ⟨rfl, rfl, rfl, by decide +kernel, rfl, by decide +kernel, by decide +kernel⟩
theorem int_at {ns : List Int} {i : Nat} {y : V} (hi : (ns.map V.int)[i]? = some y) : ∃ n, ns[i]? = some n ∧ y = .int n := by
  rw [List.getElem?_map] at hi
  cases e : ns[i]? with
  | none => rw [e] at hi; cases hi
  | some t => rw [e] at hi; exact ⟨t, rfl, (Option.some.inj hi).symm⟩
theorem ok_pair {f gS gE gW gL : Addr} {fd dS dE dW dL : FuncData} (F : Fun K "_law_pair" "_law_pair" sPair f fd) (DS : Dfn K mg "_law_stir" sStir gS dS ["cell"]) (DE : Dfn K mg "_law_eye" sEye gE dE ["elder", "left", "seed", "most"]) (DW : Dfn K mg "_law_word" sWord gW dW ["seed", "code"]) (DL : Dfn K mg "_law_slip" sSlip gL dL ["elder", "copy", "steps", "left", "words"])
    (mlen : mg "len" = none) (mrange : mg "range" = none) (mmax : mg "max" = none) (mmin : mg "min" = none) (mtup : mg "tuple" = none) : FnOk P w K mg base CX0 3 f fd ["cells", "seed", "most"] (spPair K) := by
  have GS : FnOk P w K mg base CX0 2 gS dS ["cell"] spStir := (ok_stir DS.fn).mono (by decide)
  have GE : FnOk P w K mg base CX0 2 gE dE ["elder", "left", "seed", "most"] (spEye K) := ok_eye DE.fn DW mlen mrange mmax mmin
  have GW : FnOk P w K mg base CX0 2 gW dW ["seed", "code"] spWord := (ok_word DW.fn mrange).mono (by decide)
  have GL : FnOk P w K mg base CX0 2 gL dL ["elder", "copy", "steps", "left", "words"] (spSlip K) := (ok_slip DL.fn).mono (by decide)
  refine F.ok scPair (fun vs H Q E h => ?_) (fun cdv A outer s H vs Q E hr h => ?_)
  · obtain ⟨lc, ns, a, b, rfl, _⟩ := h
    rfl
  · obtain ⟨lc, ns, a, b, rfl, hc, hb, hn, hb0, q⟩ := h
    let tG : TS := fun D σ H1 => ∃ (lE lC lS : Addr) (es cs : List Str) (ss : List V) (m l : Int) (v8 v9 : Option V), σ = [some (.ref lc), some (.int a), some (.int b), some (.ref lE), some (.ref lC), some (.ref lS), some (.int m), some (.int l), v8, v9] ∧ Tri H1 H1 lE lC lS es cs ss ∧ (∀ z ∈ es, Good z) ∧ (∀ z ∈ cs, Good z) ∧ es.length ≤ 9000 ∧ cs.length ≤ 9000 ∧ ss.length ≤ 9000 ∧
      ∀ (H' : Hp) (es' cs' : List Str) (t : Addr) (st : Sk) (ws : List Str) (v9' : Option V), Tri H1 H' lE lC lS es' cs' (ss ++ [.ref t]) → H' t = some (.tup (stepV st)) → okS st → (∃ m, es' = es ++ m) → after es' es.length cs.getLast? st = some (es'.length, ws) → cs' = cs ++ ws → (∀ z ∈ es', Good z) → (∀ z ∈ cs', Good z) → es'.length ≤ es.length + 2 → cs'.length ≤ cs.length + 2 → D.nx [some (.ref lc), some (.int a), some (.int b), some (.ref lE), some (.ref lC), some (.ref lS), some (.int m), some (.int l), v8, v9'] H'
    refine ⟨_, pss_cons (ps_set (i := 3) scPair.nd rfl (Or.inl rfl) (pe_lst pa_nil))
      (pss_cons (ps_set (i := 4) scPair.nd rfl (Or.inl rfl) (pe_lst pa_nil))
      (pss_cons (ps_set (i := 5) scPair.nd rfl (Or.inl rfl) (pe_lst pa_nil))
      (pss_cons (ps_for PassesOwn.never rfl (pi_list (pv 0)) (pg_name (i := 6) scPair.nd rfl (Or.inl rfl)) (pss_cons (ps_set (i := 7) scPair.nd rfl (Or.inl rfl) (pe_call GS hr (by rfl) DS.at_ DS.fn.kp DS.bn .nil pass0 (pa_cons (pv 6) pa_nil)))
        (pss_one (ps_if (pw_and (pt_cmpR op_eq (pe_op op_mod (pv 7) pe_int) pe_int (nomark _)) (pw_and1 (pt_cmpR (op_neS hr.units) (pv 3) (pe_lst pa_nil) (nomark _)))).pt (pss_cons (ps_set (i := 8) scPair.nd rfl (Or.inl rfl) (pe_call GE hr (by rfl) DE.at_ DE.fn.kp DE.bn .nil pass0 (pa_cons (pv 3) (pa_cons (pv 7) (pa_cons (pv 1) (pa_cons (pv 2) pa_nil))))))
      (pss_cons (ps_expr (pe_bm PySem.F.plainAttrs_list PySem.F.slot_list_extend PySem.F.type_list_extend mt_extend (pv 3) (pa_cons (pv 8) pa_nil)))
      (pss_one (ps_expr (pe_bm PySem.F.plainAttrs_list PySem.F.slot_list_append PySem.F.type_list_append mt_append (pv 5) (pa_cons (pe_tup (pa_cons pe_str (pa_cons (pe_callB call_len_seq (by rfl) mlen PySem.boot_len (pa_cons (pv 8) pa_nil)) pa_nil))) pa_nil)))))) (pss_as tG (pss_cons (ps_set (i := 9) scPair.nd rfl (Or.inl rfl) (pe_lst (pa_cons (pe_call GW hr (by rfl) DW.at_ DW.fn.kp DW.bn .nil pass0 (pa_cons (pv 1) (pa_cons (pe_op op_mod (pe_op op_fdiv (pv 7) pe_int) pe_int) pa_nil))) (pa_cons (pe_call GW hr (by rfl) DW.at_ DW.fn.kp DW.bn .nil pass0 (pa_cons (pv 1) (pa_cons (pe_op op_mod (pe_op op_fdiv (pv 7) pe_int) pe_int) pa_nil))) pa_nil)))) (pss_one (ps_expr (pe_call GL hr (by rfl) DL.at_ DL.fn.kp DL.bn .nil pass0 (pa_cons (pv 3) (pa_cons (pv 4) (pa_cons (pv 5) (pa_cons (pv 7) (pa_cons (pv 9) pa_nil))))))))) (by
      rintro D σ H1 ⟨lE, lC, lS, es, cs, ss, m, l, v8, v9, rfl, T, ge, gc, le, lcl, lsl, fin⟩
      refine ⟨_, rfl, _, rfl, _, _, rfl, rfl, ⟨by decide, by decide⟩, _, _, rfl, rfl, (by show (0 : Int) < 10; decide), _, _, rfl, fun x hx => ?_⟩
      refine ⟨_, rfl, _, rfl, _, _, rfl, rfl, ⟨by decide, by decide⟩, _, _, rfl, rfl, (by show (0 : Int) < 10; decide), _, _, rfl, fun y hy => ?_⟩
      refine ⟨few (by show 2 ≤ _; omega), fun lw hlw => ?_⟩
      have Tw := T.nw (o := .lst [.str x, .str y]) hlw
      refine ⟨_, rfl, _, rfl, _, rfl, _, rfl, _, rfl, lE, lC, lS, lw, es, cs, ss, _, x, y, rfl, Tw.self, upd_same, hx, hy, ge, gc, by omega, by omega, by omega, fun H' es' cs' t st ws T' ht' ho' hm' ha' hc' ge' gc' l1 l2 => ?_⟩
      exact fin H' es' cs' t st ws _ (Tw.to T') ht' ho' hm' ha' hc' ge' gc' l1 l2))))))
      (pss_one (ps_ret (pe_tup (pa_cons (pe_callTy call_tuple_of (by rfl) mtup boot_tuple (pa_cons (pv 3) pa_nil)) (pa_cons (pe_callTy call_tuple_of (by rfl) mtup boot_tuple (pa_cons (pv 4) pa_nil)) (pa_cons (pe_callTy call_tuple_of (by rfl) mtup boot_tuple (pa_cons (pv 5) pa_nil)) pa_nil))))))))), ?_⟩
    refine ⟨Nat.zero_le _, fun lE hE => ?_⟩
    refine ⟨Nat.zero_le _, fun lC hC => ?_⟩
    refine ⟨Nat.zero_le _, fun lS hS => ?_⟩
    obtain ⟨nCE, hC'⟩ := freeNe hC
    obtain ⟨nSC, hS'⟩ := freeNe hS
    obtain ⟨nSE, hS''⟩ := freeNe hS'
    have S0 := ((same_upd (o := .lst []) hE).trans (same_upd (o := .lst []) hC)).trans (same_upd (o := .lst []) hS)
    have T0 : Tri (upd (upd (upd H lE (.lst [])) lC (.lst [])) lS (.lst [])) (upd (upd (upd H lE (.lst [])) lC (.lst [])) lS (.lst [])) lE lC lS [] [] [] :=
      ⟨fun _ _ _ _ _ h => h, same_upd hS _ _ (same_upd hC _ _ upd_same), same_upd hS _ _ upd_same, upd_same, Ne.symm nCE, Ne.symm nSE, Ne.symm nSC⟩
    generalize hH0 : upd (upd (upd H lE (.lst [])) lC (.lst [])) lS (.lst []) = H0 at S0 T0
    have sm : ∀ {H2 : Hp} {es cs : List Str} {ss : List V}, Tri H0 H2 lE lC lS es cs ss → Same H H2 := fun t => t.same S0 hE hC' hS''
    refine ⟨_, rfl, lc, rfl, ⟨_, S0.seq hc⟩, for_list (K := K) (a := lc) (xs := ns.map V.int) (fun i σ H2 => ∃ (es cs : List Str) (ss : List V) (v6 v7 v8 v9 : Option V), σ = [some (.ref lc), some (.int a), some (.int b), some (.ref lE), some (.ref lC), some (.ref lS), v6, v7, v8, v9] ∧ Tri H0 H2 lE lC lS es cs ss ∧ (∀ z ∈ es, Good z) ∧ (∀ z ∈ cs, Good z) ∧ ((es.length : Nat) : Int) ≤ b + 1 + 2 * ((i : Nat) : Int) ∧ es.length ≤ 12 * i ∧ cs.length ≤ 2 * i ∧ ss.length ≤ i ∧ Wk H2 es cs ss)
      ⟨[], [], [], none, none, none, none, rfl, T0, (fun _ z => nomatch z), (fun _ z => nomatch z), by show (0 : Int) ≤ b + 1 + 2 * 0; omega, Nat.le_refl _, Nat.le_refl _, Nat.le_refl _, ⟨[], [], [], rfl, TupsAt.nil, rfl⟩⟩ (fun i σ H2 _ ⟨_, _, _, _, _, _, _, _, T, _⟩ => (sm T).seq hc) ?_ ?_⟩
    · rintro i y σ H2 hi ⟨es, cs, ss, v6, v7, v8, v9, rfl, T, ge, gc, lb, le, lcl, lsl, wk⟩
      obtain ⟨n, hni, rfl⟩ := int_at hi
      have hil : i < ns.length := (List.getElem?_eq_some_iff.mp hni).1
      refine ⟨_, rfl, n, rfl, hb n (List.mem_of_getElem? hni), fun l => ?_⟩
      have other : ∀ {H3 : Hp}, Tri H0 H3 lE lC lS es cs ss → Wk H3 es cs ss → ∃ (lE' lC' lS' : Addr) (es0 cs0 : List Str) (ss0 : List V) (m l' : Int) (v8' v9' : Option V), [some (V.ref lc), some (V.int a), some (V.int b), some (V.ref lE), some (V.ref lC), some (V.ref lS), some (V.int n), some (V.int l), v8, v9] = [some (.ref lc), some (.int a), some (.int b), some (.ref lE'), some (.ref lC'), some (.ref lS'), some (.int m), some (.int l'), v8', v9'] ∧ Tri H3 H3 lE' lC' lS' es0 cs0 ss0 ∧ (∀ z ∈ es0, Good z) ∧ (∀ z ∈ cs0, Good z) ∧ es0.length ≤ 9000 ∧ cs0.length ≤ 9000 ∧ ss0.length ≤ 9000 ∧
          ∀ (H' : Hp) (es' cs' : List Str) (t : Addr) (st : Sk) (ws : List Str) (v9'' : Option V), Tri H3 H' lE' lC' lS' es' cs' (ss0 ++ [.ref t]) → H' t = some (.tup (stepV st)) → okS st → (∃ m, es' = es0 ++ m) → after es' es0.length cs0.getLast? st = some (es'.length, ws) → cs' = cs0 ++ ws → (∀ z ∈ es', Good z) → (∀ z ∈ cs', Good z) → es'.length ≤ es0.length + 2 → cs'.length ≤ cs0.length + 2 →
            ∃ (es1 cs1 : List Str) (ss1 : List V) (v6 v7 v8 v9 : Option V), [some (V.ref lc), some (V.int a), some (V.int b), some (V.ref lE'), some (V.ref lC'), some (V.ref lS'), some (V.int m), some (V.int l'), v8', v9''] = [some (.ref lc), some (.int a), some (.int b), some (.ref lE), some (.ref lC), some (.ref lS), v6, v7, v8, v9] ∧ Tri H0 H' lE lC lS es1 cs1 ss1 ∧ (∀ z ∈ es1, Good z) ∧ (∀ z ∈ cs1, Good z) ∧ ((es1.length : Nat) : Int) ≤ b + 1 + 2 * (((i + 1 : Nat)) : Int) ∧ es1.length ≤ 12 * (i + 1) ∧ cs1.length ≤ 2 * (i + 1) ∧ ss1.length ≤ i + 1 ∧ Wk H' es1 cs1 ss1 := fun {H3} T3 wk3 =>
        ⟨lE, lC, lS, es, cs, ss, n, l, v8, v9, rfl, T3.self, ge, gc, by omega, by omega, by omega, fun H' es' cs' t st ws v9'' T' ht' ho' hm' ha' hc' ge' gc' l1 l2 => ⟨es', cs', ss ++ [.ref t], _, _, _, _, rfl, T3.to T', ge', gc', by omega, by omega, by omega, by rw [List.length_append]; show _ + 1 ≤ _; omega, wk3.step (T3.tups T') ht' ho' hm' ha' hc'⟩⟩
      refine ⟨_, rfl, _, _, rfl, rfl, (by show (0 : Int) < 9; decide), rfl, _, rfl, ?_⟩
      refine ite2 (fun _ => ?_) (fun _ => iteF (other T wk))
      refine ⟨_, rfl, Nat.zero_le _, fun l0 hl0 => ?_⟩
      have T2 := T.nw (o := .lst []) hl0
      refine ⟨0, decide (es = []), by decide, EqS.strs (ys := []) (.inl ⟨SqL.of T2.e, SqL.of upd_same⟩), _, rfl, ?_⟩
      by_cases h0 : es = []
      · rw [decide_eq_true h0]
        exact iteF (other T2 (wk.same (same_upd hl0)))
      · rw [decide_eq_false h0]
        refine iteT ⟨_, rfl, _, rfl, _, rfl, _, rfl, lE, es, l, a, b, rfl, T2.e, h0, ge, by omega, fun H3 lw ws S3 hlwn hlw gw w1 w2 hvz hlen => ?_⟩
        obtain ⟨vs, z, ews, ez⟩ := hvz
        have T3 := T2.sm S3
        refine ⟨_, rfl, .inl ⟨rfl, _, SqL.of T3.e⟩, _, rfl, lE, lw, _, _, rfl, rfl, T3.e, hlw, (by rw [List.length_map, List.length_map]; exact few (by omega)), ?_⟩
        have T4 := T3.ne (es ++ ws) (xs := es.map V.str ++ ws.map V.str) (by rw [List.map_append])
        have nw : lw ≠ lE := fun e => by rw [e, T2.e] at hlwn; cases hlwn
        have hlw4 : upd H3 lE (.lst (es.map V.str ++ ws.map V.str)) lw = some (.lst (ws.map V.str)) := by rw [upd_ne nw]; exact hlw
        refine ⟨_, rfl, .inl ⟨rfl, _, SqL.of T4.s⟩, _, rfl, lw, _, rfl, .inl (SqL.of hlw4), few (by show 2 ≤ _; omega), fun t ht => ⟨lS, _, _, rfl, rfl, (T4.nw ht).s, fewer (by omega), ?_⟩⟩
        subst ews
        have hwl : ((vs ++ [z]).map V.str).length = (vs ++ [z]).length := List.length_map ..
        rw [hwl]
        have T5 := (T4.nw (o := .tup [V.str (Str.ofString "skip"), V.int (((vs ++ [z]).length : Nat) : Int)]) ht).ns (ss ++ [.ref t])
        refine ⟨es ++ (vs ++ [z]), cs, ss ++ [.ref t], _, _, _, _, rfl, T5, good_app ge gw, gc, by rw [List.length_append]; omega, by rw [List.length_append]; omega, by omega, by rw [List.length_append]; show _ + 1 ≤ _; omega, ?_⟩
        exact (wk.same ((same_upd hl0).trans S3)).step (st := .skip (vs ++ [z]).length) (T3.self.tups ((T3.self.ne (es ++ (vs ++ [z])) (xs := es.map V.str ++ (vs ++ [z]).map V.str) (List.map_append ..).symm).nw (o := .tup [V.str (Str.ofString "skip"), V.int (((vs ++ [z]).length : Nat) : Int)]) ht |>.ns (ss ++ [.ref t]))) (T4.tup (o := .tup [V.str (Str.ofString "skip"), V.int (((vs ++ [z]).length : Nat) : Int)]) ht) (show okS (.skip (vs ++ [z]).length) from ⟨w1, by omega⟩) ⟨_, rfl⟩ (af_skip es vs _ ez) (List.append_nil cs).symm
    · rintro σ H2 ⟨es, cs, ss, v6, v7, v8, v9, rfl, T, ge, gc, lb, le, lcl, lsl, wk⟩
      refine ⟨_, rfl, lE, _, rfl, .inl ⟨SqL.of T.e, fun e he => ?_⟩⟩
      have S1 := same_upd (o := .tup (es.map V.str)) he
      refine ⟨_, rfl, lC, _, rfl, .inl ⟨SqL.of (S1 _ _ T.c), fun c hc' => ?_⟩⟩
      have S2 := same_upd (o := .tup (cs.map V.str)) hc'
      refine ⟨_, rfl, lS, _, rfl, .inl ⟨SqL.of (S2 _ _ (S1 _ _ T.s)), fun s' hs' => ?_⟩⟩
      have S3 := same_upd (o := .tup ss) hs'
      refine ⟨few (by show 3 ≤ _; omega), fun r hr' => ?_⟩
      have S4 := same_upd (o := .tup [.ref e, .ref c, .ref s']) hr'
      rw [List.length_map] at lb lcl lsl
      exact q _ r e c s' es cs ss (((((sm T).trans S1).trans S2).trans S3).trans S4) upd_same (S4 _ _ (S3 _ _ (S2 _ _ upd_same))) (S4 _ _ (S3 _ _ upd_same)) ge gc (S4 _ _ upd_same) (wk.same (((S1.trans S2).trans S3).trans S4)) lb lcl lsl
def Pair4 (H : Hp) (a : Addr) : Prop := ∃ (e c s : Addr) (n : Int) (es cs : List Str) (ss : List V), H a = some (.tup [.ref e, .ref c, .ref s, .int n]) ∧ H e = some (.tup (es.map V.str)) ∧ H c = some (.tup (cs.map V.str)) ∧ H s = some (.tup ss) ∧ Wk H es cs ss ∧ (∀ z ∈ es, Good z) ∧ (∀ z ∈ cs, Good z) ∧ es.length ≤ 40 ∧ cs.length ≤ 40 ∧ ss.length ≤ 63
theorem Pair4.to {H H' : Hp} {a : Addr} (h : Pair4 H a) (m : ∀ t xs, H t = some (.tup xs) → H' t = some (.tup xs)) : Pair4 H' a := by
  obtain ⟨e, c, s, n, es, cs, ss, h1, h2, h3, h4, h5, h6⟩ := h
  exact ⟨e, c, s, n, es, cs, ss, m _ _ h1, m _ _ h2, m _ _ h3, m _ _ h4, h5.mono m, h6⟩
theorem Pair4.mono {H H' : Hp} {a : Addr} (h : Pair4 H a) (S : Same H H') : Pair4 H' a := h.to fun _ _ e => S _ _ e
theorem Pair4.set {H : Hp} {a l : Addr} {ys : List V} {o : HO} (h : Pair4 H a) (hl : H l = some (.lst ys)) : Pair4 (upd H l o) a := h.to fun t xs e => by rw [upd_ne (fun z => by rw [z, hl] at e; cases e)]; exact e
theorem cut_len (xs : List V) (k m : Nat) : (cutV xs (some ((k : Nat) : Int)) (some (((k : Nat) : Int) + ((m : Nat) : Int)))).length ≤ m := by
  rw [show ((k : Nat) : Int) + ((m : Nat) : Int) = ((k + m : Nat) : Int) by omega]
  unfold cutV
  rw [HT.sIx_nat, HT.sIx_nat, List.length_take]
  omega
theorem rng_facts : ∀ n, n < 64 → ∀ m, m < 8 → 0 < m → Builtin.Range.small 0 ((n : Nat) : Int) ((m : Nat) : Int) = true ∧ Builtin.Range.rangeSize 0 ((n : Nat) : Int) ((m : Nat) : Int) = (((n + m - 1) / m : Nat) : Int) := by decide +kernel
def spMP (K : PySem.W.Frag) : Sp := fun vs H Q _ => ∃ (a : Addr) (ns : List Int) (m : Nat), vs = [.ref a, .int (m : Nat)] ∧ SqL K H a (ns.map V.int) ∧ (∀ n ∈ ns, Builtin.Int.intBits n ≤ 1048576) ∧ ns.length ≤ 63 ∧ m = 4 ∧
  ∀ (H' : Hp) (l : Addr) (as : List Addr), Same H H' → H' l = some (.lst (as.map V.ref)) → (∀ x ∈ as, Pair4 H' x) → as.length ≤ 100 → Q (.ref l) H'
theorem scMP : FnScope ["script", "many", "seed", "cells", "rows", "k", "pair"] ["script", "many"] (defScope sMP) := ⟨rfl, rfl, rfl, by decide +kernel, rfl, by decide +kernel, by decide +kernel⟩
theorem ok_mp {f gC gS gN gP : Addr} {fd dC dS dN dP : FuncData} (F : Fun K "_law_made_pairs" "_law_made_pairs" sMP f fd) (DC : Dfn K mg "_law_cell_at" sCell gC dC ["script", "k"]) (DS : Dfn K mg "_law_stir" sStir gS dS ["cell"]) (DN : Dfn K mg "_law_next" sNext gN dN ["left"]) (DP : Dfn K mg "_law_pair" sPair gP dP ["cells", "seed", "most"]) (GP : FnOk P w K mg base CX0 3 gP dP ["cells", "seed", "most"] (spPair K))
    (mlen : mg "len" = none) (mrange : mg "range" = none) : FnOk P w K mg base CX0 4 f fd ["script", "many"] (spMP K) := by
  have GC : FnOk P w K mg base CX0 3 gC dC ["script", "k"] (spCell K) := (ok_cell DC.fn mlen).mono (by decide)
  have GS : FnOk P w K mg base CX0 3 gS dS ["cell"] spStirB := (ok_stirB DS.fn).mono (by decide)
  have GN : FnOk P w K mg base CX0 3 gN dN ["left"] spStirB := (ok_next DN.fn).mono (by decide)
  refine F.ok scMP (fun vs H Q E h => ?_) (fun cdv A outer s H vs Q E hr h => ?_)
  · obtain ⟨a, ns, m, rfl, _⟩ := h
    rfl
  · obtain ⟨a, ns, m, rfl, hS, hb, hn, hm, q⟩ := h
    refine ⟨_, pss_cons (ps_set (i := 2) scMP.nd rfl (Or.inl rfl) (pe_call GS hr (by rfl) DS.at_ DS.fn.kp DS.bn .nil pass0 (pa_cons (pe_call GC hr (by rfl) DC.at_ DC.fn.kp DC.bn .nil pass0 (pa_cons (pv 0) (pa_cons pe_int pa_nil))) pa_nil)))
      (pss_cons (ps_set (i := 3) scMP.nd rfl (Or.inl rfl) (pe_slice sl_lst (pv 0) (po_some pe_int) po_none))
      (pss_cons (ps_set (i := 4) scMP.nd rfl (Or.inl rfl) (pe_lst (pa_cons (pe_tup (pa_cons (pe_tup pa_nil) (pa_cons (pe_tup pa_nil) (pa_cons (pe_tup pa_nil) (pa_cons pe_int pa_nil))))) pa_nil)))
      (pss_cons (ps_for PassesOwn.never rfl (pi_range3 (by rfl) mrange (pa_cons pe_int (pa_cons (pe_callB call_len_seq (by rfl) mlen PySem.boot_len (pa_cons (pv 3) pa_nil)) (pa_cons (pv 1) pa_nil)))) (pg_name (i := 5) scMP.nd rfl (Or.inl rfl))
      (pss_cons (ps_set (i := 6) scMP.nd rfl (Or.inl rfl) (pe_call GP hr (by rfl) DP.at_ DP.fn.kp DP.bn .nil pass0 (pa_cons (pe_slice sl_lst (pv 3) (po_some (pv 5)) (po_some (pe_op op_add (pv 5) (pv 1)))) (pa_cons (pv 2) (pa_cons pe_int pa_nil)))))
      (pss_one (ps_expr (pe_bm PySem.F.plainAttrs_list PySem.F.slot_list_append PySem.F.type_list_append mt_append (pv 4) (pa_cons (pe_tup (pa_cons (pe_ix ix_tup (pv 6) pe_int (fun _ _ => rfl)) (pa_cons (pe_ix ix_tup (pv 6) pe_int (fun _ _ => rfl)) (pa_cons (pe_ix ix_tup (pv 6) pe_int (fun _ _ => rfl)) (pa_cons (pe_call GN hr (by rfl) DN.at_ DN.fn.kp DN.bn .nil pass0 (pa_cons (pe_call GS hr (by rfl) DS.at_ DS.fn.kp DS.bn .nil pass0 (pa_cons (pe_ix ix_list (pv 3) (pv 5) (fun _ _ => rfl)) pa_nil)) pa_nil)) pa_nil))))) pa_nil))))))
      (pss_cons (ps_mid (ps_if (pt_cmpR op_eq (pe_op op_mod (pe_call GC hr (by rfl) DC.at_ DC.fn.kp DC.bn .nil pass0 (pa_cons (pv 0) (pa_cons pe_int pa_nil))) pe_int) pe_int (nomark _)) (pss_cons (ps_set (i := 6) scMP.nd rfl (Or.inl rfl) (pe_call GP hr (by rfl) DP.at_ DP.fn.kp DP.bn .nil pass0 (pa_cons (pe_slice sl_lst (pv 3) po_none (po_some pe_int)) (pa_cons (pv 2) (pa_cons pe_int pa_nil)))))
      (pss_one (ps_if (pt_cmpR op_le (pe_callB call_len_seq (by rfl) mlen PySem.boot_len (pa_cons (pe_ix ix_tup (pv 6) pe_int (fun _ _ => rfl)) pa_nil)) pe_int (nomark _)) (pss_one (ps_expr (pe_bm PySem.F.plainAttrs_list PySem.F.slot_list_append PySem.F.type_list_append mt_append (pv 4) (pa_cons (pe_tup (pa_cons (pe_ix ix_tup (pv 6) pe_int (fun _ _ => rfl)) (pa_cons (pe_ix ix_tup (pv 6) pe_int (fun _ _ => rfl)) (pa_cons (pe_ix ix_tup (pv 6) pe_int (fun _ _ => rfl)) (pa_cons (pe_call GN hr (by rfl) DN.at_ DN.fn.kp DN.bn .nil pass0 (pa_cons (pe_call GS hr (by rfl) DS.at_ DS.fn.kp DS.bn .nil pass0 (pa_cons (pe_call GC hr (by rfl) DC.at_ DC.fn.kp DC.bn .nil pass0 (pa_cons (pv 0) (pa_cons pe_int pa_nil))) pa_nil)) pa_nil)) pa_nil))))) pa_nil)))) pss_nil))) pss_nil))
      (pss_one (ps_ret (pv 4))))))), ?_⟩
    have z4 : (4 : Nat) ≤ sizeLine := few (by omega)
    refine ⟨_, rfl, a, ns, _, rfl, hS, by decide, _, rfl, bits_cell hb _, fun seed _ => ?_⟩
    obtain ⟨ms, em, hml, hmm⟩ := cut_any ns (some 2) none
    refine ⟨_, rfl, _, rfl, a, _, rfl, hS, fun c3 hc3 => ?_⟩
    rw [em]
    have S1 := same_upd (o := .lst (ms.map V.int)) hc3
    have k3 : upd H c3 (.lst (ms.map V.int)) c3 = some (.lst (ms.map V.int)) := upd_same
    generalize hH1 : upd H c3 (.lst (ms.map V.int)) = H1 at S1 k3
    refine ⟨Nat.zero_le _, fun t1 ht1 => ⟨Nat.zero_le _, fun t2 ht2 => ⟨Nat.zero_le _, fun t5 ht5 => ⟨z4, fun t3 ht3 => ⟨few (by show 1 ≤ _; omega), fun l4 hl4 => ?_⟩⟩⟩⟩⟩
    have U1 := same_upd (o := .tup []) ht1
    have U2 := same_upd (o := .tup []) ht2
    have U5 := same_upd (o := .tup []) ht5
    have U3 := same_upd (o := .tup [.ref t1, .ref t2, .ref t5, .int 0]) ht3
    have U4 := same_upd (o := .lst [.ref t3]) hl4
    have U := (((U1.trans U2).trans U5).trans U3).trans U4
    have P0 : Pair4 (upd (upd (upd (upd (upd H1 t1 (.tup [])) t2 (.tup [])) t5 (.tup [])) t3 (.tup [.ref t1, .ref t2, .ref t5, .int 0])) l4 (.lst [.ref t3])) t3 :=
      ⟨t1, t2, t5, 0, [], [], [], U4 _ _ upd_same, U4 _ _ (U3 _ _ (U5 _ _ (U2 _ _ upd_same))), U4 _ _ (U3 _ _ (U5 _ _ upd_same)), U4 _ _ (U3 _ _ upd_same), ⟨[], [], [], rfl, TupsAt.nil, rfl⟩, (fun _ z => nomatch z), (fun _ z => nomatch z), Nat.zero_le _, Nat.zero_le _, Nat.zero_le _⟩
    have l0 : upd (upd (upd (upd (upd H1 t1 (.tup [])) t2 (.tup [])) t5 (.tup [])) t3 (.tup [.ref t1, .ref t2, .ref t5, .int 0])) l4 (.lst [.ref t3]) l4 = some (.lst ([t3].map V.ref)) := upd_same
    have hl4H : H1 l4 = none := (((U1.trans U2).trans U5).trans U3).free hl4
    generalize hH2 : upd (upd (upd (upd (upd H1 t1 (.tup [])) t2 (.tup [])) t5 (.tup [])) t3 (.tup [.ref t1, .ref t2, .ref t5, .int 0])) l4 (.lst [.ref t3]) = H2 at U P0 l0
    have hlen : (ms.map V.int).length = ms.length := List.length_map ..
    have rf := rng_facts ms.length (by omega) m (by omega) (by omega)
    refine ⟨_, rfl, c3, _, rfl, .inl (SqL.of (U _ _ k3)), _, rfl, ?_⟩
    rw [hlen]
    refine ⟨0, _, _, (ms.length + m - 1) / m, rfl, by omega, by omega, rf.1, rf.2, ?_⟩
    have lens : ∀ (as : List Addr), as.length ≤ 90 → (as.map V.ref).length < sizeLine := fun as h => by rw [List.length_map]; exact fewer (by omega)
    have hcnt : (ms.length + m - 1) / m ≤ 70 := Nat.le_trans (Nat.div_le_self _ _) (by omega)
    have more : ∀ {H5 : Hp} {as : List Addr} {r e c s : Addr} {es cs : List Str} {ss : List V} {n : Int} {a8 : Addr}, H5 l4 = some (.lst (as.map V.ref)) → (∀ x ∈ as, Pair4 H5 x) → H5 e = some (.tup (es.map V.str)) → H5 c = some (.tup (cs.map V.str)) → H5 s = some (.tup ss) → Wk H5 es cs ss → (∀ z ∈ es, Good z) → (∀ z ∈ cs, Good z) → es.length ≤ 40 → cs.length ≤ 40 → ss.length ≤ 63 → H5 a8 = none →
        upd H5 a8 (.tup [.ref e, .ref c, .ref s, .int n]) l4 = some (.lst (as.map V.ref)) ∧ upd (upd H5 a8 (.tup [.ref e, .ref c, .ref s, .int n])) l4 (.lst (as.map V.ref ++ [.ref a8])) l4 = some (.lst ((as ++ [a8]).map V.ref)) ∧ (∀ x ∈ as ++ [a8], Pair4 (upd (upd H5 a8 (.tup [.ref e, .ref c, .ref s, .int n])) l4 (.lst (as.map V.ref ++ [.ref a8]))) x) := fun {H5 as r e c s es cs ss n a8} h4 hP he hc hs hw ge gc le lc ls h8 => by
      have S8 := same_upd (o := .tup [.ref e, .ref c, .ref s, .int n]) h8
      have k8 := S8 _ _ h4
      refine ⟨k8, by rw [upd_same, List.map_append]; rfl, fun x hx => ?_⟩
      rcases List.mem_append.mp hx with hx | hx
      · exact ((hP x hx).mono S8).set k8
      · rw [List.mem_singleton.mp hx]
        exact Pair4.set ⟨e, c, s, n, es, cs, ss, upd_same, S8 _ _ he, S8 _ _ hc, S8 _ _ hs, hw.same S8, ge, gc, le, lc, ls⟩ k8
    refine for_range3 (fun i σ H' => ∃ (as : List Addr) (v5 v6 : Option V), σ = [some (.ref a), some (.int (m : Nat)), some (.int seed), some (.ref c3), some (.ref l4), v5, v6] ∧ H' l4 = some (.lst (as.map V.ref)) ∧ (∀ x ∈ as, Pair4 H' x) ∧ as.length = i + 1 ∧ Same H1 H') ⟨[t3], none, none, rfl, l0, fun x hx => by rw [List.mem_singleton.mp hx]; exact P0, rfl, U⟩ ?_ ?_
    · rintro i σ H3 hi ⟨as, v5, v6, rfl, h4, hP, hal, S3⟩
      have hil : i < ms.length := Nat.lt_of_lt_of_le hi (by subst hm; omega)
      have hkl : i * m < ms.length := by subst hm; omega
      have ek : (0 : Int) + ((i : Nat) : Int) * ((m : Nat) : Int) = ((i * m : Nat) : Int) := by rw [Int.zero_add, ← Int.natCast_mul]
      rw [ek]
      generalize hk : i * m = k at hkl
      obtain ⟨x1, ex1, hx1, hxm⟩ := cut_any ms (some ((k : Nat) : Int)) (some (((k : Nat) : Int) + ((m : Nat) : Int)))
      have hx4 : x1.length ≤ m := by
        have := cut_len (ms.map V.int) k m
        rw [ex1, List.length_map] at this
        exact this
      refine ⟨_, rfl, _, rfl, _, rfl, _, rfl, _, rfl, _, _, rfl, rfl, _, rfl, c3, _, rfl, SqL.of (S3 _ _ k3), fun c5 hc5 => ?_⟩
      rw [ex1]
      have V1 := same_upd (o := .lst (x1.map V.int)) hc5
      refine ⟨_, rfl, c5, x1, _, _, rfl, SqL.of upd_same, fun y hy => hb y (hmm y (hxm y hy)), by omega, by decide, ?_⟩
      intro H5 r e c s es cs ss S5 hr5 he5 hc5' ge gc hs5 hw5 lb lc ls
      have W5 := V1.trans S5
      have k4 := W5 _ _ h4
      have atk : atI (ms.map V.int) ((k : Nat) : Int) = some (.int ms[k]) := atI_nat (by rw [List.getElem?_map, List.getElem?_eq_getElem hkl]; rfl)
      refine ⟨_, rfl, .inl ⟨rfl, _, SqL.of k4⟩, _, rfl, r, _, _, _, rfl, rfl, SqT.of hr5, rfl, _, rfl, r, _, _, _, rfl, rfl, SqT.of hr5, rfl, _, rfl, r, _, _, _, rfl, rfl, SqT.of hr5, rfl, _, rfl, _, rfl, c3, _, _, _, rfl, rfl, SqL.of ((S3.trans W5) _ _ k3), atk, _, rfl, hb _ (hmm _ (List.getElem_mem hkl)), fun v1 hv1 => ⟨_, rfl, hv1, fun v2 _ => ⟨z4, fun a8 ha8 => ?_⟩⟩⟩
      obtain ⟨k8, k9, P9⟩ := more (r := r) (n := v2) k4 (fun x hx => (hP x hx).mono W5) he5 hc5' hs5 hw5 ge gc (by omega) (by omega) (by omega) ha8
      refine ⟨l4, _, _, rfl, rfl, k8, lens as (by omega), as ++ [a8], _, _, rfl, k9, P9, by rw [List.length_append, hal]; rfl, same_to ((S3.trans W5).trans (same_upd ha8)) hl4H⟩
    · rintro σ H3 ⟨as, v5, v6, rfl, h4, hP, hal, S3⟩
      refine ⟨fun σ' H' => ∃ (as : List Addr) (v5 v6 : Option V), σ' = [some (.ref a), some (.int (m : Nat)), some (.int seed), some (.ref c3), some (.ref l4), v5, v6] ∧ H' l4 = some (.lst (as.map V.ref)) ∧ (∀ x ∈ as, Pair4 H' x) ∧ as.length ≤ 100 ∧ Same H1 H', ?_, ?_⟩
      · refine ⟨_, rfl, a, ns, _, rfl, (S1.trans S3).seq hS, by decide, _, _, rfl, rfl, (by show (0 : Int) < 4; decide), rfl, _, rfl, ?_⟩
        refine ite2 (fun _ => ?_) (fun _ => ⟨as, v5, v6, rfl, h4, hP, by omega, S3⟩)
        obtain ⟨x1, ex1, hx1, hxm⟩ := cut_any ms none (some 6)
        have hx6 : x1.length ≤ 6 := by
          have := congrArg List.length (cutTake V.int ms 6)
          rw [List.length_map, List.length_take, show (((6 : Nat)) : Int) = 6 from rfl, ex1, List.length_map] at this
          omega
        refine ⟨_, rfl, _, rfl, c3, _, rfl, SqL.of (S3 _ _ k3), fun c5 hc5 => ?_⟩
        rw [ex1]
        have V1 := same_upd (o := .lst (x1.map V.int)) hc5
        refine ⟨_, rfl, c5, x1, _, _, rfl, SqL.of upd_same, fun y hy => hb y (hmm y (hxm y hy)), by omega, by decide, ?_⟩
        intro H5 r e c s es cs ss S5 hr5 he5 hc5' ge gc hs5 hw5 lb lc ls
        have W5 := V1.trans S5
        have k4 := W5 _ _ h4
        refine ⟨_, rfl, r, _, _, _, rfl, rfl, SqT.of hr5, rfl, e, _, rfl, .inr (SqT.of he5), _, _, rfl, rfl, _, rfl, ?_⟩
        rw [List.length_map]
        refine ite2 (fun h40 => ?_) (fun _ => ⟨as, _, _, rfl, k4, fun x hx => (hP x hx).mono W5, by omega, S3.trans W5⟩)
        have h40 := of_decide_eq_true h40
        refine ⟨_, rfl, .inl ⟨rfl, _, SqL.of k4⟩, _, rfl, r, _, _, _, rfl, rfl, SqT.of hr5, rfl, _, rfl, r, _, _, _, rfl, rfl, SqT.of hr5, rfl, _, rfl, r, _, _, _, rfl, rfl, SqT.of hr5, rfl, _, rfl, a, ns, _, rfl, ((S1.trans S3).trans W5).seq hS, by decide, _, rfl, bits_cell hb _, fun v1 hv1 => ⟨_, rfl, hv1, fun v2 _ => ⟨z4, fun a8 ha8 => ?_⟩⟩⟩
        obtain ⟨k8, k9, P9⟩ := more (r := r) (n := v2) k4 (fun x hx => (hP x hx).mono W5) he5 hc5' hs5 hw5 ge gc (by omega) (by omega) (by omega) ha8
        refine ⟨l4, _, _, rfl, rfl, k8, lens as (by omega), as ++ [a8], _, _, rfl, k9, P9, by rw [List.length_append]; show _ + 1 ≤ _; omega, same_to ((S3.trans W5).trans (same_upd ha8)) hl4H⟩
      · rintro σ' H' ⟨as, v5, v6, rfl, h4, hP, hal, S⟩
        exact ⟨_, rfl, q _ l4 as (S1.trans S) h4 hP hal⟩
theorem scLAlk : FnScope ["one", "two"] ["one", "two"] (defScope sLAlk) := ⟨rfl, rfl, rfl, by decide +kernel, rfl, by decide +kernel, by decide +kernel⟩
theorem nd_LAlk : (["k", "one", "two"] : List Str).Nodup := by decide +kernel
theorem ok_lalk {f : Addr} {fd : FuncData} (F : Fun K "_law_alike" "_law_alike" sLAlk f fd) (mlen : mg "len" = none) (mrange : mg "range" = none) : FnOk P w K mg base CX0 1 f fd ["one", "two"] spAlike := by
  refine Fun.okR F scLAlk (fun vs H Q E h => ?_) (fun cdv A outer s H vs Q Q2 E hr h hq => ?_)
  · obtain ⟨a, b, rfl, _⟩ := h
    rfl
  · obtain ⟨a, b, rfl, ha, hb, q⟩ := h
    refine ⟨_, pss_one (ps_ret (pe_and (pe_cmpR op_eq (pe_callB call_len_str (by rfl) mlen PySem.boot_len (pa_cons (pv 0) pa_nil)) (pe_callB call_len_str (by rfl) mlen PySem.boot_len (pa_cons (pv 1) pa_nil)) (nomark _)) (pe_one (pe_cmpR op_eq (pe_callB call_len_seq (by rfl) mlen PySem.boot_len (pa_cons (pe_comp (Nc := ["k", "one", "two"]) (mp := [none, some 0, some 1]) rfl (CompOk.of (by rfl)) (pi_range1 (by rfl) mrange (pa_cons (pe_callB call_len_str (by rfl) mlen PySem.boot_len (pa_cons (pv 0) pa_nil)) pa_nil))
        (fun cl C s H fp => ⟨pg_name (i := 0) nd_LAlk rfl (Or.inl rfl), pts_one (pt_cmpR op_ne (pe_ix ix_str (pv 1) (pv 0) (fun _ _ => rfl)) (pe_ix ix_str (pv 2) (pv 0) (fun _ _ => rfl)) (nomark _)), pv 0⟩)) pa_nil)) pe_int (nomark _))))), ?_⟩
    refine ⟨_, rfl, a, rfl, ha, _, rfl, b, rfl, hb, rfl, _, rfl, ?_⟩
    by_cases hl : a.length = b.length
    · refine iteY (by rw [hl]) ?_
      refine ⟨_, rfl, a, rfl, ha, (a.length : Int), rfl, (by omega), (by have := szl; omega), ?_⟩
      rw [Int.toNat_natCast]
      refine comp_pure (as := List.range a.length) (v := fun i => .int (0 + (i : Nat))) (fun i => !decide (a.cps.toList[i]? = b.cps.toList[i]?)) (fun i => .int (0 + (i : Nat))) (src_range 0 a.length H) (by rw [List.length_range]; exact ha) (fun i hi k hk => ?_) (fun i hi _ k hk => ?_) (fun D hD => ?_)
      · have hi' := List.mem_range.mp hi
        have ea : a.cps.toList[i]? = some a.cps.toList[i] := List.getElem?_eq_getElem (by rw [clen]; exact hi')
        have eb : b.cps.toList[i]? = some b.cps.toList[i] := List.getElem?_eq_getElem (by rw [clen, ← hl]; exact hi')
        have ei : (0 : Int) + ((i : Nat) : Int) = ((i : Nat) : Int) := by omega
        refine ⟨_, rfl, _, rfl, a, _, a.cps.toList[i], rfl, rfl, ha, (by rw [ei]; exact atI_nat ea), _, rfl, _, rfl, b, _, b.cps.toList[i], rfl, rfl, hb, (by rw [ei]; exact atI_nat eb), rfl, _, rfl, ?_⟩
        have e : (!decide (V.str ⟨#[a.cps.toList[i]]⟩ = V.str ⟨#[b.cps.toList[i]]⟩)) = (!decide (a.cps.toList[i]? = b.cps.toList[i]?)) := by
          rw [ea, eb]
          congr 1
          exact decide_eq_decide.mpr ⟨fun z => by injection z with z; injection z with z; simpa using z, fun z => by rw [Option.some.inj z]⟩
        rw [e]; exact hk
      · exact ⟨_, rfl, hk⟩
      · refine ⟨D, _, rfl, .inl (SqL.of upd_same), rfl, hq _ _ (Rst.same (same_upd hD) ?_)⟩
        rw [List.length_map]
        have e : decide (V.int (((List.range a.length).filter fun i => !decide (a.cps.toList[i]? = b.cps.toList[i]?)).length : Nat) = V.int 1) = alikeB a.cps.toList b.cps.toList := by
          unfold alikeB placesB
          rw [if_pos (by rw [clen, clen]; exact hl), clen]
          exact decide_eq_decide.mpr ⟨fun z => by injection z with z; omega, fun z => by rw [z]; rfl⟩
        rw [e]; exact q
    · refine iteK (fun z => hl (by injection z with z; omega)) ?_
      refine hq _ _ (Rst.same (Same.refl H) ?_)
      have e : alikeB a.cps.toList b.cps.toList = false := by
        unfold alikeB
        rw [if_neg (by rw [clen, clen]; exact hl)]
      rw [← e]; exact q
def kinds5 : List Str := [Str.ofString "lose", Str.ofString "add", Str.ofString "twice", Str.ofString "swap", Str.ofString "skip"]
theorem scLPrice : FnScope ["elder", "i", "step", "prices"] ["elder", "i", "step", "prices"] (defScope sLPrice) := ⟨rfl, rfl, rfl, by decide +kernel, rfl, by decide +kernel, by decide +kernel⟩
theorem ok_lprice {f gL : Addr} {fd dL : FuncData} (F : Fun K "_law_price" "_law_price" sLPrice f fd) (DL : Dfn K mg "_law_alike" sLAlk gL dL ["one", "two"]) (GL : FnOk P w K mg base CX0 1 gL dL ["one", "two"] spAlike) (mint : mg "int" = none) : FnOk P w K mg base CX0 2 f fd ["elder", "i", "step", "prices"] (spPrice K) := by
  refine Fun.okR F scLPrice (fun vs H Q E h => ?_) (fun cdv A outer s H vs Q Q2 E hr h hq => ?_)
  · obtain ⟨p, t, q, es, d, st, pr, rfl, _⟩ := h
    rfl
  · obtain ⟨p, t, r, es, d, st, pr, rfl, hp, hg, ht, hok, hto, hpr, hl7, q⟩ := h
    refine ⟨_, pss_cons (ps_if (pt_cmpR op_eq (pe_ix ix_tup (pv 2) pe_int (fun _ _ => rfl)) pe_str (nomark _)) (pss_one (ps_ret pe_int)) pss_nil)
      (pss_cons (ps_if (pt_cmpR op_eq (pe_ix ix_tup (pv 2) pe_int (fun _ _ => rfl)) pe_str (nomark _))
        (pss_one (ps_ret (pe_ix ix_tup (pv 3) (pe_op op_sub pe_int (pe_callTy call_int1 (by rfl) mint boot_int (pa_cons (pe_call GL hr (by rfl) DL.at_ DL.fn.kp DL.bn .nil pass0 (pa_cons (pe_ix ix_tup (pv 0) (pv 1) (fun _ _ => rfl)) (pa_cons (pe_ix ix_tup (pv 2) pe_int (fun _ _ => rfl)) pa_nil))) pa_nil))) (fun _ _ => rfl)))) pss_nil)
      (pss_one (ps_ret (pe_ix ix_tup (pv 3) (pe_op op_add pe_int (pe_bm PySem.F.plainAttrs_list PySem.F.slot_list_index PySem.F.type_list_index mt_indexL (pe_lst (pa_cons pe_str (pa_cons pe_str (pa_cons pe_str (pa_cons pe_str (pa_cons pe_str pa_nil)))))) (pa_cons (pe_ix ix_tup (pv 2) pe_int (fun _ _ => rfl)) pa_nil))) (fun _ _ => rfl))))), ?_⟩
    have go : ∀ i H', Same H H' → price es d pr st = i → Q2 (.int i) H' := fun i H' S e => hq _ _ (Rst.same S (by rw [← e]; exact q))
    by_cases hkp : st = .keep
    · subst hkp
      exact ⟨_, rfl, t, _, _, _, rfl, rfl, ht, rfl, rfl, _, rfl, iteY rfl (go _ _ (Same.refl H) rfl)⟩
    by_cases htn : ∃ z, st = .turn z
    · obtain ⟨z, rfl⟩ := htn
      have hd : d < es.length := hto
      refine ⟨_, rfl, t, _, _, _, rfl, rfl, ht, rfl, rfl, _, rfl, iteK (by decide +kernel) ?_⟩
      refine ⟨_, rfl, t, _, _, _, rfl, rfl, ht, rfl, rfl, _, rfl, iteY rfl ?_⟩
      refine ⟨_, rfl, _, rfl, _, rfl, p, _, _, _, rfl, rfl, hp, at_w hd, _, rfl, t, _, _, _, rfl, rfl, ht, rfl, _, _, rfl, (hg _ (gt_mem hd)).small, Good.small hok, .inr ⟨_, rfl, _, _, rfl, rfl, ?_⟩⟩
      cases hb : alikeB (gt es d).cps.toList z.cps.toList with
      | true => exact ⟨r, _, _, _, rfl, rfl, hpr, at_p (i := 0) (by omega), go _ _ (Same.refl H) (by show (if alikeB (gt es d).cps.toList z.cps.toList = true then _ else _) = _; rw [hb]; rfl)⟩
      | false => exact ⟨r, _, _, _, rfl, rfl, hpr, at_p (i := 1) (by omega), go _ _ (Same.refl H) (by show (if alikeB (gt es d).cps.toList z.cps.toList = true then _ else _) = _; rw [hb]; rfl)⟩
    · obtain ⟨z, rest, j, e1, e0, e2, e3, e4, e5, e6⟩ : ∃ (z : Str) (rest : List V) (j : Nat), stepV st = V.str z :: rest ∧ V.str z ≠ V.str (Str.ofString "keep") ∧ V.str z ≠ V.str (Str.ofString "turn") ∧ kinds5[j]? = some z ∧ (∀ m, m < j → kinds5[m]? ≠ some z) ∧ j < 5 ∧ price es d pr st = gI pr (2 + j) := by
        cases st with
        | keep => exact absurd rfl hkp
        | lose => exact ⟨_, _, 0, rfl, by decide +kernel, by decide +kernel, rfl, by decide +kernel, by decide, rfl⟩
        | add z => exact ⟨_, _, 1, rfl, by decide +kernel, by decide +kernel, rfl, by decide +kernel, by decide, rfl⟩
        | twice => exact ⟨_, _, 2, rfl, by decide +kernel, by decide +kernel, rfl, by decide +kernel, by decide, rfl⟩
        | swap => exact ⟨_, _, 3, rfl, by decide +kernel, by decide +kernel, rfl, by decide +kernel, by decide, rfl⟩
        | skip m => exact ⟨_, _, 4, rfl, by decide +kernel, by decide +kernel, rfl, by decide +kernel, by decide, rfl⟩
        | turn z => exact absurd ⟨z, rfl⟩ htn
      have a0 : atI (stepV st) 0 = some (.str z) := atI_nat (j := 0) (by rw [e1]; rfl)
      refine ⟨_, rfl, t, _, _, _, rfl, rfl, ht, a0, rfl, _, rfl, iteK e0 ?_⟩
      refine ⟨_, rfl, t, _, _, _, rfl, rfl, ht, a0, rfl, _, rfl, iteK e2 ?_⟩
      refine ⟨_, rfl, few (by show 5 ≤ _; omega), fun l2 hl2 => ?_⟩
      have S2 := same_upd (o := .lst (kinds5.map V.str)) hl2
      refine ⟨.inl ⟨rfl, _, SqL.of upd_same⟩, _, rfl, t, _, _, _, rfl, rfl, sameT S2 ht, a0, l2, kinds5, z, j, rfl, rfl, upd_same, e3, e4, (by show 5 ≤ 1000; omega), _, _, rfl, rfl, ?_⟩
      have ej : (2 : Int) + ((j : Nat) : Int) = ((2 + j : Nat) : Int) := by omega
      exact ⟨r, _, _, _, rfl, rfl, sameT S2 hpr, (by rw [ej]; exact at_p (i := 2 + j) (by omega)), go _ _ S2 e6⟩
def spFormed (K : PySem.W.Frag) : Sp := fun vs H Q _ => ∃ (t : Addr) (ps : List Addr) (m n : Nat) (F : Nat → Nat → Int), vs = [.ref t, .int ((m + 1 : Nat) : Int), .int ((n + 1 : Nat) : Int)] ∧ NumsAt H t ps m n F ∧ m ≤ 1000 ∧ n ≤ 1000 ∧ Q (.bl true) H
theorem scFormed : FnScope ["table", "tall", "wide", "row"] ["table", "tall", "wide"] (defScope sFormed) := ⟨rfl, rfl, rfl, by decide +kernel, rfl, by decide +kernel, by decide +kernel⟩
theorem nd_one : (["one"] : List Str).Nodup := by decide +kernel
theorem ok_formed {f : Addr} {fd : FuncData} (F : Fun K "_law_formed" "_law_formed" sFormed f fd) (mlen : mg "len" = none) (misi : mg "isinstance" = none) (mtup : mg "tuple" = none) (mint : mg "int" = none) (mbool : mg "bool" = none) (mall : mg "all" = none)
    (i6 : PySem.W.kitOne K (.type "int") (.type "bool") = some false) : FnOk P w K mg base CX0 1 f fd ["table", "tall", "wide"] (spFormed K) := by
  refine Fun.okR F scFormed (fun vs H Q E h => ?_) (fun cdv A outer s H vs Q Q2 E hr h hq => ?_)
  · obtain ⟨t, ps, m, n, F, rfl, _⟩ := h
    rfl
  · obtain ⟨t, ps, m, n, F, rfl, hN, hm, hn, q⟩ := h
    refine ⟨_, pss_cons (ps_if (pw_or (pt_not (pt_val (pe_callB call_isi (by rfl) misi boot_isinstance (pa_cons (pv 0) (pa_cons (pe_bltn (v := .ty "tuple") (by rfl) mtup boot_tuple rfl) pa_nil))))) (pw_or1 (pt_cmpR op_ne (pe_callB call_len_seq (by rfl) mlen PySem.boot_len (pa_cons (pv 0) pa_nil)) (pv 1) (nomark _)))).pt (pss_one (ps_ret pe_bl)) pss_nil)
      (pss_cons (ps_for PassesOwn.never rfl (pi_tup (pv 0)) (pg_name (i := 3) scFormed.nd rfl (Or.inl rfl))
        (pss_cons (ps_if (pw_or (pt_not (pt_val (pe_callB call_isi (by rfl) misi boot_isinstance (pa_cons (pv 3) (pa_cons (pe_bltn (v := .ty "tuple") (by rfl) mtup boot_tuple rfl) pa_nil))))) (pw_or1 (pt_cmpR op_ne (pe_callB call_len_seq (by rfl) mlen PySem.boot_len (pa_cons (pv 3) pa_nil)) (pv 2) (nomark _)))).pt (pss_one (ps_ret pe_bl)) pss_nil)
        (pss_one (ps_if (pt_not (pt_val (pe_callB (call_all rfl) (by rfl) mall boot_all (pa_cons (pe_comp (Nc := ["one"]) (mp := [none]) rfl (CompOk.of (by rfl)) (pi_tup (pv 3))
          (fun cl C s H fp => ⟨pg_name (i := 0) nd_one rfl (Or.inl rfl), pts_nil, pe_and (pe_callB (call_isiK (K := K) rfl) (by rfl) misi boot_isinstance (pa_cons (pv 0) (pa_cons (pe_bltn (v := .ty "int") (by rfl) mint boot_int rfl) pa_nil))) (pe_one (pe_not (pe_callB (call_isiK (K := K) rfl) (by rfl) misi boot_isinstance (pa_cons (pv 0) (pa_cons (pe_bltn (v := .ty "bool") (by rfl) mbool boot_bool rfl) pa_nil)))))⟩)) pa_nil)))) (pss_one (ps_ret pe_bl)) pss_nil))))
      (pss_one (ps_ret pe_bl))), ?_⟩
    have hpl : (ps.map V.ref).length = m + 1 := by rw [List.length_map]; exact hN.len
    refine ⟨_, rfl, _, _, _, _, rfl, .tup hN.top, kit_same _, _, rfl, iteF ⟨_, rfl, t, _, rfl, .inr (SqT.of hN.top), _, rfl, rfl, _, rfl, ?_⟩⟩
    rw [hpl]
    refine iteNS rfl ?_
    refine ⟨_, rfl, t, rfl, ⟨_, SqT.of hN.top⟩, for_tup (xs := ps.map V.ref) (fun i σ H2 => ∃ v3 : Option V, σ = [some (.ref t), some (.int ((m + 1 : Nat) : Int)), some (.int ((n + 1 : Nat) : Int)), v3] ∧ Same H H2) ⟨none, rfl, Same.refl _⟩ (fun i σ H2 _ ⟨_, _, S⟩ => SqT.of (S _ _ hN.top)) ?_ ?_⟩
    · rintro i v σ H2 hi ⟨v3, rfl, S2⟩
      have hil : i < ps.length := by have := (List.getElem?_eq_some_iff.mp hi).1; rwa [List.length_map] at this
      rw [List.getElem?_map, List.getElem?_eq_getElem hil] at hi
      have hv : V.ref ps[i] = v := Option.some.inj hi
      subst hv
      have hr := S2 _ _ (hN.row i ps[i] (List.getElem?_eq_getElem hil))
      have hrl : ((List.range (n + 1)).map fun j => V.int (F i j)).length = n + 1 := by rw [List.length_map, List.length_range]
      refine ⟨_, rfl, _, _, _, _, rfl, .tup hr, kit_same _, _, rfl, iteF ⟨_, rfl, ps[i], _, rfl, .inr (SqT.of hr), _, rfl, rfl, _, rfl, ?_⟩⟩
      rw [hrl]
      refine iteNS rfl ?_
      refine ⟨_, rfl, ps[i], rfl, ⟨_, SqT.of hr⟩, comp_map (as := List.range (n + 1)) (v := fun j => V.int (F i j)) (fun _ => .bl true) (src_tup (SqT.of hr)) (by rw [List.length_range]; exact few (by omega)) (fun j hj k hk => ?_) (fun D hD => ?_)⟩
      · exact ⟨_, rfl, _, _, _, _, rfl, .int _, kit_same _, true, rfl, iteT ⟨_, rfl, _, _, _, _, rfl, .int _, i6, _, rfl, hk⟩⟩
      · refine ⟨D, (List.range (n + 1)).map fun _ => true, rfl, SqL.of (by rw [upd_same, List.map_map]; rfl), _, rfl, ?_⟩
        rw [show ((List.range (n + 1)).map fun _ => true).all id = true by rw [List.all_eq_true]; intro x hx; obtain ⟨_, _, rfl⟩ := List.mem_map.mp hx; rfl]
        exact iteF ⟨_, rfl, S2.trans (same_upd hD)⟩
    · rintro σ H2 ⟨v3, rfl, S2⟩
      exact hq _ _ (Rst.same S2 q)
theorem one_yes {es : List Str} {i : Nat} (h : i < es.length) : (es.drop i).take 1 = [gt es i] := by
  rw [List.drop_eq_getElem_cons h]
  show [es[i]] = _
  unfold gt
  rw [List.getElem?_eq_getElem h]; rfl
theorem cut_tail (cs : List Str) (j : Nat) (hj : j ≤ cs.length) : cutV ((cs.take j).map V.str) (some (-1)) none = (if j = 0 then [] else [gt cs (j - 1)]).map V.str := by
  unfold cutV
  have hl : ((cs.take j).map V.str).length = j := by rw [List.length_map, List.length_take]; omega
  have e1 : HT.sIx ((cs.take j).map V.str).length 0 (some (-1)) = ((-1 : Int) + (j : Int)).toNat := by
    rw [hl]
    show (if (-1 : Int) < 0 then ((-1 : Int) + (j : Int)).toNat else min ((-1 : Int)).toNat j) = _
    rw [if_pos (by decide)]
  rw [e1, HT.sIx_none, hl, ← List.map_drop, ← List.map_take]
  congr 1
  by_cases h0 : j = 0
  · rw [if_pos h0, h0]; simp
  · rw [if_neg h0]
    have e2 : ((-1 : Int) + (j : Int)).toNat = j - 1 := by omega
    rw [e2, show j - (j - 1) = 1 by omega, one_yes (by rw [List.length_take]; omega)]
    unfold gt
    rw [List.getElem?_take, if_pos (by omega)]
theorem cut_from (es : List Str) (d : Nat) : cutV (es.map V.str) (some (d : Int)) none = (es.drop d).map V.str := by
  unfold cutV
  rw [HT.sIx_none, HT.sIx_nat, List.length_map, List.map_drop]
  have e : (es.map V.str).drop (min d es.length) = (es.map V.str).drop d := by
    have := drop_min (es.map V.str) d
    rw [List.length_map] at this
    exact this
  rw [e]
  exact List.take_of_length_le (by rw [List.length_drop, List.length_map]; omega)
theorem drop_at {es : List Str} {d k : Nat} (h : d + k < es.length) : atI ((es.drop d).map V.str) (k : Int) = some (.str (gt es (d + k))) := by
  refine atI_nat ?_
  rw [List.getElem?_map, List.getElem?_drop, gt_of h]
  rfl
theorem last_some {cp : List Str} (h : cp ≠ []) : cp.getLast?.isSome = true := by
  cases e : cp.getLast? with
  | none => exact absurd (List.getLast?_eq_none_iff.mp e) h
  | some z => rfl
theorem last_len (cp : List Str) : cp.getLast?.toList.length ≤ 1 := by cases cp.getLast? <;> simp
theorem cut_last {cp : List Str} (h : cp ≠ []) : cutV (cp.map V.str) (some (-1)) none = (cp.getLast?.toList).map V.str := by
  have hl : cp.length ≠ 0 := fun z => h (List.length_eq_zero_iff.mp z)
  have e := cut_tail cp cp.length (Nat.le_refl _)
  rw [List.take_length, if_neg hl] at e
  rw [e]
  congr 1
  rw [List.getLast?_eq_getElem?, gt_of (by omega)]
  rfl
def spDoes (K : PySem.W.Frag) : Sp := fun vs H Q _ => ∃ (p t c : Addr) (es cp : List Str) (d : Nat) (st : Sk), vs = [.ref p, .int (d : Nat), .ref c, .ref t] ∧ SqT K H p (es.map V.str) ∧ SqT K H c (cp.map V.str) ∧ SqT K H t (stepV st) ∧ okS st ∧ d ≤ es.length ∧ cp.length ≤ 10000 ∧
  match after es d cp.getLast? st with
  | some (d', ws) => ∀ (H' : Hp) (x y : Addr), Same H H' → SqT K H' y ((cp ++ ws).map V.str) → H' x = some (.tup [.int (d' : Nat), .ref y]) → Q (.ref x) H'
  | none => ∀ H', Same H H' → Q .non H'
theorem scDoes : FnScope ["elder", "done", "copy", "step", "ahead"] ["elder", "done", "copy", "step"] (defScope sDoes) := ⟨rfl, rfl, rfl, by decide +kernel, rfl, by decide +kernel, by decide +kernel⟩
theorem ok_does {f : Addr} {fd : FuncData} (F : Fun K "_law_does" "_law_does" sDoes f fd) (mlen : mg "len" = none) : FnOk P w K mg base CX0 1 f fd ["elder", "done", "copy", "step"] (spDoes K) := by
  refine F.ok scDoes (fun vs H Q E h => ?_) (fun cdv A outer s H vs Q E hr h => ?_)
  · obtain ⟨p, t, c, es, cp, d, st, rfl, _⟩ := h
    rfl
  · obtain ⟨p, t, c, es, cp, d, st, rfl, hp, hc, ht, hok, hde, hcl, q⟩ := h
    refine ⟨_, pss_cons (ps_set (i := 4) scDoes.nd rfl (Or.inl rfl) (pe_slice sl_tupA (pv 0) (po_some (pv 1)) po_none))
      (pss_cons (ps_if (pt_cmpR op_eq (pe_ix ix_tup (pv 3) pe_int (fun _ _ => rfl)) pe_str (nomark _)) (pss_one (ps_ret (pe_tup (pa_cons (pv 1) (pa_cons (pe_op op_catA (pv 2) (pe_tup (pa_cons (pe_ix ix_tup (pv 3) pe_int (fun _ _ => rfl)) pa_nil))) pa_nil))))) pss_nil)
      (pss_cons (ps_if (PW.pt (pw_and (pt_cmpR op_eq (pe_ix ix_tup (pv 3) pe_int (fun _ _ => rfl)) pe_str (nomark _)) (pw_and1 (pt_cmpR (op_neS hr.units) (pv 2) (pe_tup pa_nil) (nomark _))))) (pss_one (ps_ret (pe_tup (pa_cons (pv 1) (pa_cons (pe_op op_catA (pv 2) (pe_slice sl_tupA (pv 2) (po_some (pe_un un_neg pe_int)) po_none)) pa_nil))))) pss_nil)
      (pss_cons (ps_if (PW.pt (pw_and (pt_cmpR op_eq (pe_ix ix_tup (pv 3) pe_int (fun _ _ => rfl)) pe_str (nomark _)) (pw_and1 (pt_cmpR (op_neS hr.units) (pv 4) (pe_tup pa_nil) (nomark _))))) (pss_one (ps_ret (pe_tup (pa_cons (pe_op op_add (pv 1) pe_int) (pa_cons (pe_op op_catA (pv 2) (pe_slice sl_tupA (pv 4) po_none (po_some pe_int))) pa_nil))))) pss_nil)
      (pss_cons (ps_if (PW.pt (pw_and (pt_cmpR op_eq (pe_ix ix_tup (pv 3) pe_int (fun _ _ => rfl)) pe_str (nomark _)) (pw_and (pt_cmpR (op_neS hr.units) (pv 4) (pe_tup pa_nil) (nomark _)) (pw_and1 (pt_cmpR op_ne (pe_ix ix_tup (pv 4) pe_int (fun _ _ => rfl)) (pe_ix ix_tup (pv 3) pe_int (fun _ _ => rfl)) (nomark _)))))) (pss_one (ps_ret (pe_tup (pa_cons (pe_op op_add (pv 1) pe_int) (pa_cons (pe_op op_catA (pv 2) (pe_tup (pa_cons (pe_ix ix_tup (pv 3) pe_int (fun _ _ => rfl)) pa_nil))) pa_nil))))) pss_nil)
      (pss_cons (ps_if (PW.pt (pw_and (pt_cmpR op_eq (pe_ix ix_tup (pv 3) pe_int (fun _ _ => rfl)) pe_str (nomark _)) (pw_and1 (pt_cmpR (op_neS hr.units) (pv 4) (pe_tup pa_nil) (nomark _))))) (pss_one (ps_ret (pe_tup (pa_cons (pe_op op_add (pv 1) pe_int) (pa_cons (pv 2) pa_nil))))) pss_nil)
      (pss_cons (ps_if (PW.pt (pw_and (pt_cmpR op_eq (pe_ix ix_tup (pv 3) pe_int (fun _ _ => rfl)) pe_str (nomark _)) (pw_and (pt_cmpR op_gt (pe_callB call_len_seq (by rfl) mlen PySem.boot_len (pa_cons (pv 4) pa_nil)) pe_int (nomark _)) (pw_and1 (pt_cmpR op_ne (pe_ix ix_tup (pv 4) pe_int (fun _ _ => rfl)) (pe_ix ix_tup (pv 4) pe_int (fun _ _ => rfl)) (nomark _)))))) (pss_one (ps_ret (pe_tup (pa_cons (pe_op op_add (pv 1) pe_int) (pa_cons (pe_op op_catA (pv 2) (pe_tup (pa_cons (pe_ix ix_tup (pv 4) pe_int (fun _ _ => rfl)) (pa_cons (pe_ix ix_tup (pv 4) pe_int (fun _ _ => rfl)) pa_nil)))) pa_nil))))) pss_nil)
      (pss_cons (ps_if (PW.pt (pw_and (pt_cmpR op_eq (pe_ix ix_tup (pv 3) pe_int (fun _ _ => rfl)) pe_str (nomark _)) (pw_and (pt_cmpR op_gt (pv 1) pe_int (nomark _)) (pw_and (pt_cmpR op_le (pe_ix ix_tup (pv 3) pe_int (fun _ _ => rfl)) (pe_callB call_len_seq (by rfl) mlen PySem.boot_len (pa_cons (pv 4) pa_nil)) (nomark _)) (pw_and1 (pt_cmpR op_eq (pe_ix ix_tup (pv 4) (pe_op op_sub (pe_ix ix_tup (pv 3) pe_int (fun _ _ => rfl)) pe_int) (fun _ _ => rfl)) (pe_ix ix_tup (pv 0) (pe_op op_sub (pv 1) pe_int) (fun _ _ => rfl)) (nomark _))))))) (pss_one (ps_ret (pe_tup (pa_cons (pe_op op_add (pv 1) (pe_ix ix_tup (pv 3) pe_int (fun _ _ => rfl))) (pa_cons (pv 2) pa_nil))))) pss_nil)
      (pss_one (ps_ret pe_non))))))))), ?_⟩
    refine ⟨_, rfl, _, rfl, _, rfl, ?_⟩
    unfold tNoPart
    refine cutTup hp fun r H1 S1 hl => ?_
    rw [cut_from] at hl
    have ht1 := sameT S1 ht
    have hc1 := sameT S1 hc
    have hp1 := sameT S1 hp
    have z1 : (1 : Nat) ≤ sizeLine := few (by omega)
    have z2 : (2 : Nat) ≤ sizeLine := few (by omega)
    have hdl : ((es.drop d).map V.str).length = es.length - d := by rw [List.length_map, List.length_drop]
    have no : fitsB es d cp.getLast? st = false → ∀ {H2 : Hp}, Same H H2 → Q .non H2 := fun e H2 S => by
      unfold after at q
      rw [e, if_neg Bool.false_ne_true] at q
      exact q H2 S
    have yes : fitsB es d cp.getLast? st = true → ∀ {H2 : Hp} {y : Addr}, Same H H2 → SqT K H2 y ((cp ++ ww es d cp.getLast? st).map V.str) → ∀ b, H2 b = none → Q (.ref b) (upd H2 b (.tup [.int ((d + wd st : Nat) : Int), .ref y])) := fun e H2 y S hy b hb => by
      unfold after at q
      rw [e, if_pos rfl] at q
      exact q _ b y (S.trans (same_upd hb)) (sameT (same_upd hb) hy) upd_same
    have ne0 : ∀ {H2 : Hp} {a : Addr} {X : List Str}, SqT K H2 a (X.map V.str) → ∀ t, H2 t = none → EqS K (upd H2 t (.tup [])) 0 (.ref a) (.ref t) (decide (X = [])) := fun {H2 a X} h t ht => EqS.strs (ys := []) (.inr ⟨sameT (same_upd ht) h, SqT.of upd_same⟩)
    have catE : ∀ {H4 : Hp} {u : Addr} {ys : List Str}, SqT K H4 u (cp.map V.str ++ ys.map V.str) → SqT K H4 u ((cp ++ ys).map V.str) := fun {H4 u ys} h => by rw [List.map_append]; exact h
    have gt1 : decide ((1 : Int) < (((es.drop d).map V.str).length : Int)) = decide (d + 1 < es.length) := by rw [hdl]; exact decide_eq_decide.mpr (by omega)
    have at0 : d < es.length → atI ((es.drop d).map V.str) 0 = some (.str (gt es d)) := fun h => drop_at (k := 0) h
    have at1 : d + 1 < es.length → atI ((es.drop d).map V.str) 1 = some (.str (gt es (d + 1))) := fun h => drop_at (k := 1) h
    have dropN : d < es.length → ¬ es.drop d = [] := fun h z => by have := congrArg List.length z; rw [List.length_drop] at this; simp at this; omega
    have dropY : ¬ d < es.length → es.drop d = [] := fun h => List.drop_of_length_le (by omega)
    cases st with
    | add y =>
        exact ⟨_, rfl, t, _, _, _, rfl, rfl, ht1, rfl, rfl, _, rfl, iteY rfl ⟨_, rfl, _, rfl, _, rfl, t, _, _, _, rfl, rfl, ht1, rfl, z1, fun a ha => ⟨c, _, _, _, rfl, rfl, sameT (same_upd ha) hc1, SqT.of (upd_same (o := .tup [.str y])), (by rw [List.length_map]; exact few (by show _ + 1 ≤ _; omega)), fun u H4 S4 hu => ⟨z2, yes rfl (S1.trans ((same_upd ha).trans S4)) (catE (ys := [y]) hu)⟩⟩⟩⟩
    | twice =>
        refine ⟨_, rfl, t, _, _, _, rfl, rfl, ht1, rfl, rfl, _, rfl, iteK (by decide +kernel) ?_⟩
        refine ⟨_, rfl, t, _, _, _, rfl, rfl, ht1, rfl, rfl, _, rfl, iteY rfl ⟨_, rfl, Nat.zero_le _, fun t0 ht0 => ⟨0, _, by decide, ne0 hc1 t0 ht0, _, rfl, ?_⟩⟩⟩
        have St := same_upd (o := .tup []) ht0
        by_cases h : cp = []
        · rw [decide_eq_true h]
          exact iteF ⟨_, rfl, t, _, _, _, rfl, rfl, (sameT St ht1), rfl, rfl, _, rfl, iteK (by decide +kernel) (iteF ⟨_, rfl, t, _, _, _, rfl, rfl, (sameT St ht1), rfl, rfl, _, rfl, iteK (by decide +kernel) (iteF ⟨_, rfl, t, _, _, _, rfl, rfl, (sameT St ht1), rfl, rfl, _, rfl, iteK (by decide +kernel) (iteF ⟨_, rfl, t, _, _, _, rfl, rfl, (sameT St ht1), rfl, rfl, _, rfl, iteK (by decide +kernel) (iteF ⟨_, rfl, t, _, _, _, rfl, rfl, (sameT St ht1), rfl, rfl, _, rfl, iteK (by decide +kernel) (iteF (no (by rw [h]; rfl) (S1.trans St)))⟩)⟩)⟩)⟩)⟩
        · rw [decide_eq_false h]
          refine iteT ⟨_, rfl, _, rfl, _, rfl, _, rfl, _, rfl, ?_⟩
          show rSlTA K (V.ref c) (some (-1)) none _ _
          refine cutTup (sameT St hc1) fun u H3 S3 hu => ?_
          rw [show cutV (cp.map V.str) (some (-1)) none = _ from cut_last h] at hu
          exact ⟨c, _, _, _, rfl, rfl, sameT (St.trans S3) hc1, hu, (by rw [List.length_map, List.length_map]; have := last_len cp; exact few (by omega)), fun u H4 S4 hu => ⟨z2, yes (last_some h) (S1.trans ((St.trans S3).trans S4)) (catE (ys := cp.getLast?.toList) hu)⟩⟩
    | keep =>
        refine ⟨_, rfl, t, _, _, _, rfl, rfl, ht1, rfl, rfl, _, rfl, iteK (by decide +kernel) ?_⟩
        refine ⟨_, rfl, t, _, _, _, rfl, rfl, ht1, rfl, rfl, _, rfl, iteK (by decide +kernel) (iteF ?_)⟩
        refine ⟨_, rfl, t, _, _, _, rfl, rfl, ht1, rfl, rfl, _, rfl, iteY rfl ⟨_, rfl, Nat.zero_le _, fun t0 ht0 => ⟨0, _, by decide, ne0 hl t0 ht0, _, rfl, ?_⟩⟩⟩
        have St := same_upd (o := .tup []) ht0
        by_cases h : d < es.length
        · rw [decide_eq_false (dropN h)]
          refine iteT ⟨_, rfl, _, _, rfl, rfl, _, rfl, _, rfl, _, rfl, cutTup (sameT St hl) fun u H3 S3 hu => ?_⟩
          rw [show cutV ((es.drop d).map V.str) none (some 1) = _ from cutTake V.str (es.drop d) 1, one_yes h] at hu
          exact ⟨c, _, _, _, rfl, rfl, sameT (St.trans S3) hc1, hu, (by rw [List.length_map]; exact few (by show _ + 1 ≤ _; omega)), fun u H4 S4 hu => ⟨z2, yes (decide_eq_true h) (S1.trans ((St.trans S3).trans S4)) (catE (ys := [gt es d]) hu)⟩⟩
        · rw [decide_eq_true (dropY h)]
          exact iteF ⟨_, rfl, t, _, _, _, rfl, rfl, (sameT St ht1), rfl, rfl, _, rfl, iteK (by decide +kernel) (iteF ⟨_, rfl, t, _, _, _, rfl, rfl, (sameT St ht1), rfl, rfl, _, rfl, iteK (by decide +kernel) (iteF ⟨_, rfl, t, _, _, _, rfl, rfl, (sameT St ht1), rfl, rfl, _, rfl, iteK (by decide +kernel) (iteF ⟨_, rfl, t, _, _, _, rfl, rfl, (sameT St ht1), rfl, rfl, _, rfl, iteK (by decide +kernel) (iteF (no (decide_eq_false h) (S1.trans St)))⟩)⟩)⟩)⟩
    | turn y =>
        refine ⟨_, rfl, t, _, _, _, rfl, rfl, ht1, rfl, rfl, _, rfl, iteK (by decide +kernel) ?_⟩
        refine ⟨_, rfl, t, _, _, _, rfl, rfl, ht1, rfl, rfl, _, rfl, iteK (by decide +kernel) (iteF ?_)⟩
        refine ⟨_, rfl, t, _, _, _, rfl, rfl, ht1, rfl, rfl, _, rfl, iteK (by decide +kernel) (iteF ?_)⟩
        refine ⟨_, rfl, t, _, _, _, rfl, rfl, ht1, rfl, rfl, _, rfl, iteY rfl ⟨_, rfl, Nat.zero_le _, fun t0 ht0 => ⟨0, _, by decide, ne0 hl t0 ht0, _, rfl, ?_⟩⟩⟩
        have St := same_upd (o := .tup []) ht0
        by_cases h : d < es.length
        · rw [decide_eq_false (dropN h)]
          have ef : fitsB es d cp.getLast? (.turn y) = !decide (V.str (gt es d) = V.str y) := by
            show (decide (d < es.length) && !decide (es[d]? = some y)) = _
            rw [decide_eq_true h, Bool.true_and, some_dec h, str_dec]
          refine iteT ⟨_, rfl, r, _, _, _, rfl, rfl, sameT St hl, at0 h, _, rfl, t, _, _, _, rfl, rfl, sameT St ht1, rfl, rfl, _, rfl, ite2 (fun h2 => ?_) (fun h2 => ?_)⟩
          · exact ⟨_, rfl, _, _, rfl, rfl, _, rfl, _, rfl, t, _, _, _, rfl, rfl, sameT St ht1, rfl, z1, fun a ha => ⟨c, _, _, _, rfl, rfl, sameT (St.trans (same_upd ha)) hc1, SqT.of (upd_same (o := .tup [.str y])), (by rw [List.length_map]; exact few (by show _ + 1 ≤ _; omega)), fun u H4 S4 hu => ⟨z2, yes (ef.trans h2) (S1.trans ((St.trans (same_upd ha)).trans S4)) (catE (ys := [y]) hu)⟩⟩⟩
          · exact ⟨_, rfl, t, _, _, _, rfl, rfl, (sameT St ht1), rfl, rfl, _, rfl, iteK (by decide +kernel) (iteF ⟨_, rfl, t, _, _, _, rfl, rfl, (sameT St ht1), rfl, rfl, _, rfl, iteK (by decide +kernel) (iteF ⟨_, rfl, t, _, _, _, rfl, rfl, (sameT St ht1), rfl, rfl, _, rfl, iteK (by decide +kernel) (iteF (no (by rw [ef]; exact Bool.eq_false_iff.mpr h2) (S1.trans St)))⟩)⟩)⟩
        · rw [decide_eq_true (dropY h)]
          refine iteF (iteF ⟨_, rfl, t, _, _, _, rfl, rfl, (sameT St ht1), rfl, rfl, _, rfl, iteK (by decide +kernel) (iteF ⟨_, rfl, t, _, _, _, rfl, rfl, (sameT St ht1), rfl, rfl, _, rfl, iteK (by decide +kernel) (iteF ⟨_, rfl, t, _, _, _, rfl, rfl, (sameT St ht1), rfl, rfl, _, rfl, iteK (by decide +kernel) (iteF (no ?_ (S1.trans St)))⟩)⟩)⟩)
          show (decide (d < es.length) && !decide (es[d]? = some y)) = _
          rw [decide_eq_false h, Bool.false_and]
    | lose =>
        refine ⟨_, rfl, t, _, _, _, rfl, rfl, ht1, rfl, rfl, _, rfl, iteK (by decide +kernel) ?_⟩
        refine ⟨_, rfl, t, _, _, _, rfl, rfl, ht1, rfl, rfl, _, rfl, iteK (by decide +kernel) (iteF ?_)⟩
        refine ⟨_, rfl, t, _, _, _, rfl, rfl, ht1, rfl, rfl, _, rfl, iteK (by decide +kernel) (iteF ?_)⟩
        refine ⟨_, rfl, t, _, _, _, rfl, rfl, ht1, rfl, rfl, _, rfl, iteK (by decide +kernel) (iteF ?_)⟩
        refine ⟨_, rfl, t, _, _, _, rfl, rfl, ht1, rfl, rfl, _, rfl, iteY rfl ⟨_, rfl, Nat.zero_le _, fun t0 ht0 => ⟨0, _, by decide, ne0 hl t0 ht0, _, rfl, ?_⟩⟩⟩
        have St := same_upd (o := .tup []) ht0
        by_cases h : d < es.length
        · rw [decide_eq_false (dropN h)]
          exact iteT ⟨_, rfl, _, _, rfl, rfl, _, rfl, z2, yes (decide_eq_true h) (S1.trans St) (by show SqT K _ c ((cp ++ []).map V.str); rw [List.append_nil]; exact sameT St hc1)⟩
        · rw [decide_eq_true (dropY h)]
          exact iteF ⟨_, rfl, t, _, _, _, rfl, rfl, (sameT St ht1), rfl, rfl, _, rfl, iteK (by decide +kernel) (iteF ⟨_, rfl, t, _, _, _, rfl, rfl, (sameT St ht1), rfl, rfl, _, rfl, iteK (by decide +kernel) (iteF (no (decide_eq_false h) (S1.trans St)))⟩)⟩
    | swap =>
        refine ⟨_, rfl, t, _, _, _, rfl, rfl, ht1, rfl, rfl, _, rfl, iteK (by decide +kernel) ?_⟩
        refine ⟨_, rfl, t, _, _, _, rfl, rfl, ht1, rfl, rfl, _, rfl, iteK (by decide +kernel) (iteF ?_)⟩
        refine ⟨_, rfl, t, _, _, _, rfl, rfl, ht1, rfl, rfl, _, rfl, iteK (by decide +kernel) (iteF ?_)⟩
        refine ⟨_, rfl, t, _, _, _, rfl, rfl, ht1, rfl, rfl, _, rfl, iteK (by decide +kernel) (iteF ?_)⟩
        refine ⟨_, rfl, t, _, _, _, rfl, rfl, ht1, rfl, rfl, _, rfl, iteK (by decide +kernel) (iteF ?_)⟩
        refine ⟨_, rfl, t, _, _, _, rfl, rfl, ht1, rfl, rfl, _, rfl, iteY rfl ⟨_, rfl, r, _, rfl, .inr hl, _, _, rfl, rfl, _, rfl, ?_⟩⟩
        rw [gt1]
        refine ite2 (fun h => ?_) (fun h => iteF ⟨_, rfl, t, _, _, _, rfl, rfl, ht1, rfl, rfl, _, rfl, iteK (by decide +kernel) (iteF (no ?_ S1))⟩)
        · have hd := of_decide_eq_true h
          have ef : fitsB es d cp.getLast? .swap = !decide (V.str (gt es d) = V.str (gt es (d + 1))) := by
            show (decide (d + 1 < es.length) && !decide (es[d]? = es[d + 1]?)) = _
            rw [h, Bool.true_and, gt_of hd, some_dec (by omega), str_dec]
          refine ⟨_, rfl, r, _, _, _, rfl, rfl, hl, at0 (by omega), _, rfl, r, _, _, _, rfl, rfl, hl, at1 hd, rfl, _, rfl, ite2 (fun h2 => ?_) (fun h2 => ⟨_, rfl, t, _, _, _, rfl, rfl, ht1, rfl, rfl, _, rfl, iteK (by decide +kernel) (iteF (no (by rw [ef]; exact Bool.eq_false_iff.mpr h2) S1))⟩)⟩
          exact ⟨_, rfl, _, _, rfl, rfl, _, rfl, _, rfl, r, _, _, _, rfl, rfl, hl, at1 hd, _, rfl, r, _, _, _, rfl, rfl, hl, at0 (by omega), z2, fun a ha => ⟨c, _, _, _, rfl, rfl, sameT (same_upd ha) hc1, SqT.of (upd_same (o := .tup [.str (gt es (d + 1)), .str (gt es d)])), (by rw [List.length_map]; exact few (by show _ + 2 ≤ _; omega)), fun u H4 S4 hu => ⟨z2, yes (ef.trans h2) (S1.trans ((same_upd ha).trans S4)) (catE (ys := [gt es (d + 1), gt es d]) hu)⟩⟩⟩
        · show (decide (d + 1 < es.length) && !decide (es[d]? = es[d + 1]?)) = _
          rw [decide_eq_false (fun c => h (decide_eq_true c)), Bool.false_and]
    | skip m =>
        refine ⟨_, rfl, t, _, _, _, rfl, rfl, ht1, rfl, rfl, _, rfl, iteK (by decide +kernel) ?_⟩
        refine ⟨_, rfl, t, _, _, _, rfl, rfl, ht1, rfl, rfl, _, rfl, iteK (by decide +kernel) (iteF ?_)⟩
        refine ⟨_, rfl, t, _, _, _, rfl, rfl, ht1, rfl, rfl, _, rfl, iteK (by decide +kernel) (iteF ?_)⟩
        refine ⟨_, rfl, t, _, _, _, rfl, rfl, ht1, rfl, rfl, _, rfl, iteK (by decide +kernel) (iteF ?_)⟩
        refine ⟨_, rfl, t, _, _, _, rfl, rfl, ht1, rfl, rfl, _, rfl, iteK (by decide +kernel) (iteF ?_)⟩
        refine ⟨_, rfl, t, _, _, _, rfl, rfl, ht1, rfl, rfl, _, rfl, iteK (by decide +kernel) (iteF ?_)⟩
        refine ⟨_, rfl, t, _, _, _, rfl, rfl, ht1, rfl, rfl, _, rfl, iteY rfl ⟨_, rfl, _, _, rfl, rfl, _, rfl, ?_⟩⟩
        have hm := hok.1
        refine ite2 (fun h => ?_) (fun h => iteF (no ?_ S1))
        · have hd : (0 : Int) < ((d : Nat) : Int) := of_decide_eq_true h
          refine ⟨_, rfl, t, _, _, _, rfl, rfl, ht1, rfl, _, rfl, r, _, rfl, .inr hl, _, _, rfl, rfl, _, rfl, ?_⟩
          rw [hdl]
          refine ite2 (fun h2 => ?_) (fun h2 => iteF (no ?_ S1))
          · have hd2 := of_decide_eq_true h2
            have e1 : ((m : Nat) : Int) - 1 = ((m - 1 : Nat) : Int) := by omega
            have e2 : ((d : Nat) : Int) - 1 = ((d - 1 : Nat) : Int) := by omega
            have ef : fitsB es d cp.getLast? (.skip m) = decide (V.str (gt es (d + (m - 1))) = V.str (gt es (d - 1))) := by
              show skipB es d m = _
              unfold skipB
              rw [decide_eq_true (by omega), Bool.true_and, str_dec, gt_of (show d - 1 < es.length by omega), some_dec (by omega), show d + m - 1 = d + (m - 1) by omega]
            refine ⟨_, rfl, _, rfl, t, _, _, _, rfl, rfl, ht1, rfl, _, _, rfl, rfl, r, _, _, _, rfl, rfl, hl, (by rw [e1]; exact drop_at (by omega)), _, rfl, _, rfl, _, _, rfl, rfl, p, _, _, _, rfl, rfl, hp1, (by rw [e2]; exact at_w (by omega)), rfl, _, rfl, ?_⟩
            refine ite2 (fun h3 => ?_) (fun h3 => no (by rw [ef]; exact Bool.eq_false_iff.mpr h3) S1)
            refine ⟨_, rfl, _, rfl, t, _, _, _, rfl, rfl, ht1, rfl, _, _, rfl, rfl, _, rfl, z2, fun b hb => ?_⟩
            have := yes (y := c) (ef.trans h3) S1 (by show SqT K _ c ((cp ++ []).map V.str); rw [List.append_nil]; exact hc1) b hb
            have e3 : ((d + wd (.skip m) : Nat) : Int) = ((d : Nat) : Int) + ((m : Nat) : Int) := by show ((d + m : Nat) : Int) = _; omega
            rw [e3] at this
            exact this
          · show skipB es d m = _
            unfold skipB
            rw [decide_eq_false (fun c => h2 (decide_eq_true (by omega))), Bool.false_and]
        · show skipB es d m = _
          unfold skipB
          rw [decide_eq_false (fun c => h (decide_eq_true (by have := c.1; omega))), Bool.false_and]
def lmade (es : List Str) (pr : List Int) (sts : List Sk) : Option (List Str × Int) := (walk es sts (0, [], [])).bind fun x => if x.1 < es.length then none else some (x.2.1, cost es pr x.2.2 sts)
theorem walk_none {es : List Str} {sts : List Sk} {i : Nat} (h : walk es (sts.take i) (0, [], []) = none) : walk es sts (0, [], []) = none := by
  have e : sts = sts.take i ++ sts.drop i := (List.take_append_drop i sts).symm
  rw [e, walk_append, h]
  rfl
def spMade (K : PySem.W.Frag) : Sp := fun vs H Q _ => ∃ (p q r : Addr) (es : List Str) (ts : List Addr) (sts : List Sk) (pr : List Int), vs = [.ref p, .ref q, .ref r] ∧ SqT K H p (es.map V.str) ∧ (∀ z ∈ es, Good z) ∧ SqT K H q (ts.map V.ref) ∧ StepsAt K H ts sts ∧ sts.length ≤ 1000 ∧ SqT K H r (pr.map V.int) ∧ pr.length = 7 ∧
  match lmade es pr sts with
  | some (cp, n) => ∀ (H' : Hp) (x y : Addr), Same H H' → SqT K H' y (cp.map V.str) → H' x = some (.tup [.ref y, .int n]) → Q (.ref x) H'
  | none => ∀ H', Same H H' → Q .non H'
theorem scMade : FnScope ["elder", "steps", "prices", "done", "copy", "total", "step", "came"] ["elder", "steps", "prices"] (defScope sMade) := ⟨rfl, rfl, rfl, by decide +kernel, rfl, by decide +kernel, by decide +kernel⟩
theorem ok_made {f gDo gLP : Addr} {fd dDo dLP : FuncData} (F : Fun K "_law_made" "_law_made" sMade f fd) (DDo : Dfn K mg "_law_does" sDoes gDo dDo ["elder", "done", "copy", "step"]) (DLP : Dfn K mg "_law_price" sLPrice gLP dLP ["elder", "i", "step", "prices"]) (GLP : FnOk P w K mg base CX0 2 gLP dLP ["elder", "i", "step", "prices"] (spPrice K)) (mlen : mg "len" = none) : FnOk P w K mg base CX0 3 f fd ["elder", "steps", "prices"] (spMade K) := by
  have GDo : FnOk P w K mg base CX0 2 gDo dDo ["elder", "done", "copy", "step"] (spDoes K) := (ok_does DDo.fn mlen).mono (by decide)
  refine F.ok scMade (fun vs H Q E h => ?_) (fun cdv A outer s H vs Q E hr h => ?_)
  · obtain ⟨p, q, r, es, ts, sts, pr, rfl, _⟩ := h
    rfl
  · obtain ⟨p, q0, r0, es, ts, sts, pr, rfl, hp, hg, hts, hst, hsl, hpr, h7, q⟩ := h
    refine ⟨_, pss_cons (ps_set (i := 3) scMade.nd rfl (Or.inl rfl) pe_int)
      (pss_cons (ps_set (i := 4) scMade.nd rfl (Or.inl rfl) (pe_tup pa_nil))
      (pss_cons (ps_set (i := 5) scMade.nd rfl (Or.inl rfl) pe_int)
      (pss_cons (ps_for PassesOwn.never rfl (pi_tup (pv 1)) (pg_name (i := 6) scMade.nd rfl (Or.inl rfl))
      (pss_cons (ps_set (i := 7) scMade.nd rfl (Or.inl rfl) (pe_call GDo hr (by rfl) DDo.at_ DDo.fn.kp DDo.bn .nil pass0 (pa_cons (pv 0) (pa_cons (pv 3) (pa_cons (pv 4) (pa_cons (pv 6) pa_nil))))))
      (pss_cons (ps_if (pt_cmpR op_isN (pv 7) pe_non (nomark _)) (pss_one (ps_ret pe_non)) pss_nil)
      (pss_cons (ps_set (i := 5) scMade.nd rfl (Or.inl rfl) (pe_op op_add (pv 5) (pe_call GLP hr (by rfl) DLP.at_ DLP.fn.kp DLP.bn .nil pass0 (pa_cons (pv 0) (pa_cons (pv 3) (pa_cons (pv 6) (pa_cons (pv 2) pa_nil)))))))
      (pss_cons (ps_set (i := 3) scMade.nd rfl (Or.inl rfl) (pe_ix ix_tup (pv 7) pe_int (fun _ _ => rfl)))
      (pss_one (ps_set (i := 4) scMade.nd rfl (Or.inl rfl) (pe_ix ix_tup (pv 7) pe_int (fun _ _ => rfl)))))))))
      (pss_cons (ps_if (pt_cmpR op_lt (pv 3) (pe_callB call_len_seq (by rfl) mlen PySem.boot_len (pa_cons (pv 0) pa_nil)) (nomark _)) (pss_one (ps_ret pe_non)) pss_nil)
      (pss_one (ps_ret (pe_tup (pa_cons (pv 4) (pa_cons (pv 5) pa_nil))))))))), ?_⟩
    have hlen : (es.map V.str).length = es.length := List.length_map ..
    refine ⟨Nat.zero_le _, fun c0 hc0 => ?_⟩
    have S0 := same_upd (o := .tup []) hc0
    refine ⟨_, rfl, q0, rfl, ⟨_, sameT S0 hts⟩, for_tup (K := K) (a := q0) (xs := ts.map V.ref) (fun i σ H2 => ∃ (d : Nat) (cp : List Str) (pl : List Nat) (c : Addr) (v6 v7 : Option V), σ = [some (.ref p), some (.ref q0), some (.ref r0), some (.int (d : Nat)), some (.ref c), some (.int (cost es pr pl (sts.take i))), v6, v7] ∧
      SqT K H2 c (cp.map V.str) ∧ Same H H2 ∧ walk es (sts.take i) (0, [], []) = some (d, cp, pl) ∧ cp.length ≤ 2 * i ∧ pl.length = i ∧ d ≤ es.length)
      ⟨0, [], [], c0, none, none, rfl, SqT.of upd_same, S0, rfl, Nat.le_refl _, rfl, Nat.zero_le _⟩ (fun i σ H2 _ ⟨_, _, _, _, _, _, _, _, S, _⟩ => sameT S hts) ?_ ?_⟩
    · rintro i y σ H2 hi ⟨d, cp, pl, c, v6, v7, rfl, hc, S, hw, hcl, hpl, hde⟩
      obtain ⟨t, hti, rfl⟩ := ref_at hi
      have hil : i < ts.length := (List.getElem?_eq_some_iff.mp hti).1
      have hil' : i < sts.length := by rw [← hst.len]; exact hil
      have hsi : sts[i]? = some sts[i] := List.getElem?_eq_getElem hil'
      have htk := take_snoc hsi
      generalize hgs : sts[i] = st at hsi htk
      obtain ⟨hT, hO⟩ := hst.item i t st hti hsi
      have wt := walk_turn hsi hw
      refine ⟨_, rfl, _, rfl, _, rfl, _, rfl, p, t, c, es, cp, d, st, rfl, sameT S hp, hc, sameT S hT, hO, hde, by omega, ?_⟩
      cases ha : after es d cp.getLast? st with
      | none =>
        rw [ha] at wt
        intro H3 S3
        refine ⟨_, rfl, rfl, _, rfl, iteY rfl ?_⟩
        unfold lmade at q
        rw [walk_none wt] at q
        exact q _ (S.trans S3)
      | some y =>
        obtain ⟨d', ws⟩ := y
        rw [ha] at wt
        have hwl : ws.length ≤ 2 := after_len ha
        have hto := after_turn ha
        have hde' := after_le ha hde
        intro H3 x y S3 hy hx
        have S03 := S.trans S3
        refine ⟨_, rfl, rfl, _, rfl, iteK (fun z => by cases z) ?_⟩
        refine ⟨_, rfl, _, rfl, _, rfl, _, rfl, _, rfl, p, t, r0, es, d, st, pr, rfl, sameT S03 hp, hg, sameT S03 hT, hO, hto, sameT S03 hpr, h7, _, _, rfl, rfl, ?_⟩
        refine ⟨_, rfl, x, _, _, _, rfl, rfl, SqT.of hx, rfl, ?_⟩
        refine ⟨_, rfl, x, _, _, _, rfl, rfl, SqT.of hx, rfl, ?_⟩
        refine ⟨d', cp ++ ws, pl ++ [d], y, some (.ref t), some (.ref x), ?_, hy, S03, wt, by rw [List.length_append]; omega, by rw [List.length_append, hpl]; rfl, hde'⟩
        rw [htk, cost_snoc (by rw [List.length_take]; omega)]
        rfl
    · rintro σ H2 ⟨d, cp, pl, c, v6, v7, rfl, hc, S, hw, hcl, hpl, hde⟩
      rw [List.length_map, hst.len, List.take_length] at hw
      rw [List.length_map, hst.len, List.take_length]
      refine ⟨_, rfl, _, rfl, p, _, rfl, .inr (sameT S hp), _, _, rfl, rfl, _, rfl, ?_⟩
      rw [hlen]
      unfold lmade at q
      rw [hw] at q
      refine ite2 (fun h => ?_) (fun h => ?_)
      · have h0 := of_decide_eq_true h
        rw [Option.bind_some, if_pos (show d < es.length by omega)] at q
        exact q _ S
      · have h0 : ¬ (((d : Nat) : Int) < (es.length : Int)) := fun c => h (decide_eq_true c)
        rw [Option.bind_some, if_neg (show ¬ d < es.length by omega)] at q
        refine ⟨_, rfl, _, rfl, few (by show 2 ≤ _; omega), fun x hx => ?_⟩
        exact q _ x c (S.trans (same_upd hx)) (sameT (same_upd hx) hc) upd_same
theorem told_lmade {es cs : List Str} {pr : List Int} {R : Nat → Nat → Int} {sts : List Sk} (hR : Rest (fun i st => price es i pr st) es.length cs.length (ways es cs) R) (h : Told es cs pr R 0 0 sts) : lmade es pr sts = some (cs, R 0 0) := by
  obtain ⟨pl, h1, h2, h3⟩ := told_walk hR sts 0 0 [] (Nat.zero_le _) (Nat.zero_le _) h
  rw [List.take_zero, List.nil_append] at h1
  unfold lmade
  rw [h1, Option.bind_some, if_neg (Nat.lt_irrefl _), h3]
theorem after_way {es cs : List Str} {i j d : Nat} {st : Sk} {ws : List Str} (ha : after es i (cs.take j).getLast? st = some (d, ws)) (hj : j + ws.length ≤ cs.length) (hw : (cs.drop j).take ws.length = ws) (ho : okS st) : (st, d, j + ws.length) ∈ ways es cs i j := by
  unfold after at ha
  split at ha
  · rename_i hf
    cases ha
    unfold ways
    simp only [List.mem_append]
    cases st with
    | keep =>
      have hi : i < es.length := of_decide_eq_true hf
      have hj' : j < cs.length := hj
      have e : [gt cs j] = [gt es i] := by rw [← drop_one hj']; exact hw
      have e : gt cs j = gt es i := (List.cons.inj e).1
      left; left; left; left; left
      unfold w1
      rw [if_pos ⟨hi, hj'⟩, if_pos e.symm]
      exact List.mem_singleton.mpr rfl
    | turn z =>
      obtain ⟨h1, h2⟩ := Bool.and_eq_true_iff.mp (show (decide (i < es.length) && !decide (es[i]? = some z)) = true from hf)
      have hi := of_decide_eq_true h1
      have hj' : j < cs.length := hj
      have e : [gt cs j] = [z] := by rw [← drop_one hj']; exact hw
      have e : gt cs j = z := (List.cons.inj e).1
      have hn : ¬ gt es i = gt cs j := fun c => by
        rw [some_dec hi, c, e, decide_eq_true rfl] at h2
        exact Bool.false_ne_true h2
      left; left; left; left; left
      unfold w1
      rw [if_pos ⟨hi, hj'⟩, if_neg hn, e]
      exact List.mem_singleton.mpr rfl
    | lose =>
      have hi : i < es.length := of_decide_eq_true hf
      left; left; left; left; right
      unfold w2
      rw [if_pos hi]
      exact List.mem_singleton.mpr rfl
    | add z =>
      have hj' : j < cs.length := hj
      have e : [gt cs j] = [z] := by rw [← drop_one hj']; exact hw
      have e : gt cs j = z := (List.cons.inj e).1
      left; left; left; right
      unfold w3
      rw [if_pos hj', e]
      exact List.mem_singleton.mpr rfl
    | twice =>
      have h0 : 0 < j := by
        rcases Nat.eq_zero_or_pos j with c | c
        · rw [c, List.take_zero] at hf
          cases hf
        · exact c
      have hj0 : j ≤ cs.length := by omega
      rw [take_last h0 hj0] at hj hw ⊢
      have hj' : j < cs.length := hj
      have e : [gt cs j] = [gt cs (j - 1)] := by rw [← drop_one hj']; exact hw
      left; left; right
      unfold w4
      rw [if_pos ⟨h0, hj', (List.cons.inj e).1⟩]
      exact List.mem_singleton.mpr rfl
    | swap =>
      obtain ⟨h1, h2⟩ := Bool.and_eq_true_iff.mp (show (decide (i + 1 < es.length) && !decide (es[i]? = es[i + 1]?)) = true from hf)
      have hi := of_decide_eq_true h1
      have hn : ¬ gt es i = gt es (i + 1) := fun c => by
        rw [gt_of hi, some_dec (by omega), c, decide_eq_true rfl] at h2
        exact Bool.false_ne_true h2
      left; right
      unfold w5 swapW
      have hw2 : (cs.drop j).take 2 = [gt es (i + 1), gt es i] := hw
      rw [if_pos hi, if_neg hn, if_pos (decide_eq_true hw2)]
      exact List.mem_singleton.mpr rfl
    | skip m =>
      obtain ⟨h1, h2⟩ := Bool.and_eq_true_iff.mp (show (decide (1 ≤ i ∧ i + m ≤ es.length) && decide (es[i + m - 1]? = es[i - 1]?)) = true from hf)
      have hi := of_decide_eq_true h1
      have hm := ho.1
      have e := of_decide_eq_true h2
      rw [gt_of (show i + m - 1 < es.length by omega), gt_of (show i - 1 < es.length by omega)] at e
      have e := Option.some.inj e
      right
      unfold w6
      refine List.mem_map.mpr ⟨m, ?_, rfl⟩
      unfold skips
      rw [if_neg (by omega)]
      refine List.mem_map.mpr ⟨m - 1, List.mem_filter.mpr ⟨List.mem_range.mpr (by omega), decide_eq_true ?_⟩, by omega⟩
      rw [show i + (m - 1) = i + m - 1 by omega]
      exact e
  · cases ha
theorem walk_grow {es : List Str} : ∀ (sts : List Sk) (x y : WS), walk es sts x = some y → ∃ m, y.2.1 = x.2.1 ++ m
  | [], x, y, h => by cases h; exact ⟨[], (List.append_nil _).symm⟩
  | st :: r, x, y, h => by
    have h' : (walk1 es x st).bind (walk es r) = some y := h
    cases hw : walk1 es x st with
    | none => rw [hw] at h'; cases h'
    | some z =>
      rw [hw] at h'
      obtain ⟨m, em⟩ := walk_grow r z y h'
      unfold walk1 at hw
      cases ha : after es x.1 x.2.1.getLast? st with
      | none => rw [ha] at hw; cases hw
      | some u =>
        rw [ha] at hw
        cases hw
        exact ⟨u.2 ++ m, by rw [em]; simp⟩
theorem walk_way {es cs : List Str} {sts : List Sk} {pl plk : List Nat} {k d d' : Nat} {st : Sk} {cp ws : List Str} (hwk : walk es sts (0, [], []) = some (es.length, cs, pl)) (hi : sts[k]? = some st) (hw : walk es (sts.take k) (0, [], []) = some (d, cp, plk)) (ha : after es d cp.getLast? st = some (d', ws)) (ho : okS st) :
    (st, d', cp.length + ws.length) ∈ ways es cs d cp.length ∧ cp.length + ws.length ≤ cs.length ∧ cp = cs.take cp.length := by
  have wt := walk_turn hi hw
  rw [ha] at wt
  have hs : walk es (sts.take (k + 1) ++ sts.drop (k + 1)) (0, [], []) = some (es.length, cs, pl) := by rw [List.take_append_drop]; exact hwk
  rw [walk_append, wt] at hs
  obtain ⟨m, em⟩ := walk_grow _ _ _ hs
  have em : cs = (cp ++ ws) ++ m := em
  have e1 : cp = cs.take cp.length := by rw [em, List.append_assoc, List.take_left]
  have e2 : (cs.drop cp.length).take ws.length = ws := by rw [em, List.append_assoc, List.drop_left, List.take_left]
  have e3 : cp.length + ws.length ≤ cs.length := by rw [em, List.length_append, List.length_append]; omega
  refine ⟨after_way ?_ e3 e2 ho, e3, e1⟩
  rw [← e1]
  exact ha
theorem walk_least {es cs : List Str} {pr : List Int} {sts : List Sk} {pl : List Nat} {G : Nat → Nat → Int} (hG : Least (fun i st => price es i pr st) es.length cs.length (ways es cs) G) (hwk : walk es sts (0, [], []) = some (es.length, cs, pl)) (ho : ∀ st ∈ sts, okS st) :
    ∀ k, k ≤ sts.length → ∃ (d : Nat) (cp : List Str) (plk : List Nat), walk es (sts.take k) (0, [], []) = some (d, cp, plk) ∧ plk.length = k ∧ d ≤ es.length ∧ cp.length ≤ cs.length ∧ G d cp.length ≤ cost es pr plk (sts.take k)
  | 0, _ => ⟨0, [], [], rfl, rfl, Nat.zero_le _, Nat.zero_le _, by rw [show ([] : List Str).length = 0 from rfl, hG.z]; exact Int.le_refl _⟩
  | k + 1, hk => by
    obtain ⟨d, cp, plk, hw, hl, hd, hc, hle⟩ := walk_least hG hwk ho k (by omega)
    have hi := List.getElem?_eq_getElem (show k < sts.length by omega)
    obtain ⟨d', ws, ha, hw'⟩ := walk_at hwk hi hw
    obtain ⟨hm, h3, e1⟩ := walk_way hwk hi hw ha (ho _ (List.mem_of_getElem? hi))
    have hg := hG.le d cp.length hd hc _ hm
    refine ⟨d', cp ++ ws, plk ++ [d], hw', by rw [List.length_append, hl]; rfl, after_le ha hd, by rw [List.length_append]; exact h3, ?_⟩
    rw [take_snoc hi, cost_snoc (by rw [List.length_take, hl]; omega), List.length_append]
    have hg : G d' (cp.length + ws.length) ≤ G d cp.length + price es d pr sts[k] := hg
    omega
theorem walk_cost {es cs : List Str} {pr : List Int} {sts : List Sk} {pl : List Nat} {G : Nat → Nat → Int} (hG : Least (fun i st => price es i pr st) es.length cs.length (ways es cs) G) (hwk : walk es sts (0, [], []) = some (es.length, cs, pl)) (ho : ∀ st ∈ sts, okS st) : G es.length cs.length ≤ cost es pr pl sts := by
  obtain ⟨d, cp, plk, hw, _, _, _, hle⟩ := walk_least hG hwk ho sts.length (Nat.le_refl _)
  rw [List.take_length] at hw hle
  rw [hwk] at hw
  cases hw
  exact hle
theorem walk_lmade {es cs : List Str} {pr : List Int} {sts : List Sk} {pl : List Nat} (hwk : walk es sts (0, [], []) = some (es.length, cs, pl)) : lmade es pr sts = some (cs, cost es pr pl sts) := by
  unfold lmade
  rw [hwk, Option.bind_some, if_neg (Nat.lt_irrefl _)]
theorem price_pos {es : List Str} {pr : List Int} (hp : ∀ x ∈ pr, 0 ≤ x) (i : Nat) (st : Sk) : 0 ≤ price es i pr st := by
  have g : ∀ k, 0 ≤ gI pr k := fun k => by
    unfold gI
    cases e : pr[k]? with
    | none => exact Int.le_refl _
    | some x => exact hp x (List.mem_of_getElem? e)
  cases st with
  | keep => exact Int.le_refl _
  | turn z =>
    show 0 ≤ (if alikeB (gt es i).cps.toList z.cps.toList = true then gI pr 0 else gI pr 1)
    split
    · exact g 0
    · exact g 1
  | lose => exact g 2
  | add z => exact g 3
  | twice => exact g 4
  | swap => exact g 5
  | skip m => exact g 6
theorem rest_pos {es cs : List Str} {pr : List Int} {R : Nat → Nat → Int} (hp : ∀ x ∈ pr, 0 ≤ x) (hR : Rest (fun i st => price es i pr st) es.length cs.length (ways es cs) R) : ∀ (n i j : Nat), i ≤ es.length → j ≤ cs.length → (es.length - i) + (cs.length - j) ≤ n → 0 ≤ R i j
  | n, i, j, hi, hj, hn => by
    by_cases e : i = es.length ∧ j = cs.length
    · rw [e.1, e.2, hR.z]; exact Int.le_refl _
    · obtain ⟨x, hx, ex⟩ := hR.eq i j hi hj e
      have hf := ways_fwd es cs i j hi hj x hx
      match n, hn with
      | 0, hn => omega
      | n + 1, hn =>
        have ih := rest_pos hp hR n x.2.1 x.2.2 hf.1 hf.2.1 (by omega)
        have := price_pos (es := es) hp i x.1
        omega
theorem keep_head {cs : List Str} {i : Nat} (h : i < cs.length) : ∃ r, ways cs cs i i = (.keep, i + 1, i + 1) :: r := by
  unfold ways w1
  rw [if_pos ⟨h, h⟩, if_pos rfl]
  exact ⟨_, rfl⟩
theorem self_rest {cs : List Str} {pr : List Int} {R : Nat → Nat → Int} (hp : ∀ x ∈ pr, 0 ≤ x) (hR : Rest (fun i st => price cs i pr st) cs.length cs.length (ways cs cs) R) : ∀ (n i : Nat), i ≤ cs.length → cs.length - i ≤ n → R i i = 0
  | n, i, hi, hn => by
    by_cases e : i = cs.length
    · rw [e, hR.z]
    · match n, hn with
      | 0, hn => omega
      | n + 1, hn =>
        obtain ⟨r, er⟩ := keep_head (cs := cs) (i := i) (by omega)
        have ih := self_rest hp hR n (i + 1) (by omega) (by omega)
        have h1 := hR.le i i hi hi (.keep, i + 1, i + 1) (by rw [er]; exact List.mem_cons_self)
        have h1 : R i i ≤ 0 + R (i + 1) (i + 1) := h1
        have h2 := rest_pos hp hR _ i i hi hi (Nat.le_refl _)
        omega
theorem self_told {cs : List Str} {pr : List Int} {R : Nat → Nat → Int} (hp : ∀ x ∈ pr, 0 ≤ x) (hR : Rest (fun i st => price cs i pr st) cs.length cs.length (ways cs cs) R) : ∀ (sts : List Sk) (i : Nat), i ≤ cs.length → Told cs cs pr R i i sts → sts = List.replicate (cs.length - i) .keep
  | [], i, hi, h => by
    rw [h.1, Nat.sub_self]
    rfl
  | st :: r, i, hi, h => by
    obtain ⟨x, hx, rfl, ht⟩ := h
    have hlt : i < cs.length := by
      rcases Nat.lt_or_ge i cs.length with c | c
      · exact c
      · have e : i = cs.length := by omega
        have := (cheap_in (List.mem_of_mem_head? hx)).1
        rw [e, ways_none] at this
        cases this
    obtain ⟨q, er⟩ := keep_head (cs := cs) hlt
    have e0 : (cheap cs cs pr R i i).head? = some (.keep, i + 1, i + 1) := by
      unfold cheap
      rw [er, List.filter_cons_of_pos]
      · rfl
      · refine decide_eq_true ?_
        show (0 : Int) + R (i + 1) (i + 1) = R i i
        rw [self_rest hp hR _ i hi (Nat.le_refl _), self_rest hp hR _ (i + 1) hlt (Nat.le_refl _)]
        rfl
    rw [e0] at hx
    cases hx
    rw [self_told hp hR r (i + 1) hlt ht, show cs.length - i = (cs.length - (i + 1)) + 1 by omega, List.replicate_succ]
def spIs : Sp := fun vs H Q _ => ∃ (t : Addr) (st : Sk), vs = [.ref t] ∧ H t = some (.tup (stepV st)) ∧ okS st ∧ Q (.bl true) H
theorem scIs : FnScope ["step"] ["step"] (defScope sIs) := ⟨rfl, rfl, rfl, by decide +kernel, rfl, by decide +kernel, by decide +kernel⟩
theorem ok_is {f : Addr} {fd : FuncData} (F : Fun K "_law_is_step" "_law_is_step" sIs f fd) (mlen : mg "len" = none) (misi : mg "isinstance" = none) (mtup : mg "tuple" = none) (mstr : mg "str" = none) (mint : mg "int" = none) (mbool : mg "bool" = none) (i6 : PySem.W.kitOne K (.type "int") (.type "bool") = some false) : FnOk P w K mg base CX0 1 f fd ["step"] spIs := by
  refine Fun.okR F scIs (fun vs H Q E h => ?_) (fun cdv A outer s H vs Q Q2 E hr h hq => ?_)
  · obtain ⟨t, st, rfl, _⟩ := h
    rfl
  · obtain ⟨t, st, rfl, ht, ho, q⟩ := h
    refine ⟨_, pss_cons (ps_if (PW.pt (pw_or (pt_not (pt_val (pe_callB call_isi (by rfl) misi boot_isinstance (pa_cons (pv 0) (pa_cons (pe_bltn (v := .ty "tuple") (by rfl) mtup boot_tuple rfl) pa_nil))))) (pw_or (pt_cmpR op_lt (pe_callB call_len_seq (by rfl) mlen PySem.boot_len (pa_cons (pv 0) pa_nil)) pe_int (nomark _)) (pw_or (pt_cmpR op_gt (pe_callB call_len_seq (by rfl) mlen PySem.boot_len (pa_cons (pv 0) pa_nil)) pe_int (nomark _)) (pw_or1 (pt_not (pt_val (pe_callB call_isi (by rfl) misi boot_isinstance (pa_cons (pe_ix ix_tup (pv 0) pe_int (fun _ _ => rfl)) (pa_cons (pe_bltn (v := .ty "str") (by rfl) mstr boot_str rfl) pa_nil)))))))))) (pss_one (ps_ret pe_bl)) pss_nil)
      (pss_cons (ps_if (PW.pt (pw_or (pt_cmpR op_eq (pe_ix ix_tup (pv 0) pe_int (fun _ _ => rfl)) pe_str (nomark _)) (pw_or1 (pt_cmpR op_eq (pe_ix ix_tup (pv 0) pe_int (fun _ _ => rfl)) pe_str (nomark _))))) (pss_one (ps_ret (pe_and (pe_cmpR op_eq (pe_callB call_len_seq (by rfl) mlen PySem.boot_len (pa_cons (pv 0) pa_nil)) pe_int (nomark _)) (pe_one (pe_callB call_isi (by rfl) misi boot_isinstance (pa_cons (pe_ix ix_tup (pv 0) pe_int (fun _ _ => rfl)) (pa_cons (pe_bltn (v := .ty "str") (by rfl) mstr boot_str rfl) pa_nil))))))) pss_nil)
      (pss_cons (ps_if (pt_cmpR op_eq (pe_ix ix_tup (pv 0) pe_int (fun _ _ => rfl)) pe_str (nomark _)) (pss_one (ps_ret (pe_and (pe_cmpR op_eq (pe_callB call_len_seq (by rfl) mlen PySem.boot_len (pa_cons (pv 0) pa_nil)) pe_int (nomark _)) (pe_and (pe_callB call_isi (by rfl) misi boot_isinstance (pa_cons (pe_ix ix_tup (pv 0) pe_int (fun _ _ => rfl)) (pa_cons (pe_bltn (v := .ty "int") (by rfl) mint boot_int rfl) pa_nil))) (pe_and (pe_not (pe_callB call_isi (by rfl) misi boot_isinstance (pa_cons (pe_ix ix_tup (pv 0) pe_int (fun _ _ => rfl)) (pa_cons (pe_bltn (v := .ty "bool") (by rfl) mbool boot_bool rfl) pa_nil)))) (pe_one (pe_cmpR op_gt (pe_ix ix_tup (pv 0) pe_int (fun _ _ => rfl)) pe_int (nomark _)))))))) pss_nil)
      (pss_one (ps_ret (pe_cmpR op_eq (pe_callB call_len_seq (by rfl) mlen PySem.boot_len (pa_cons (pv 0) pa_nil)) pe_int (nomark _)))))), ?_⟩
    have hT : SqT K H t (stepV st) := SqT.of ht
    have fin : Q2 (.bl true) H := hq _ _ (Rst.same (Same.refl H) q)
    obtain ⟨k, rest, e0, hl1, hl2⟩ : ∃ (k : Str) (rest : List V), stepV st = .str k :: rest ∧ ¬ (((stepV st).length : Int) < 1) ∧ ¬ ((2 : Int) < ((stepV st).length : Int)) := by
      have hl : (stepV st).length = 1 ∨ (stepV st).length = 2 := by cases st <;> first | exact .inl rfl | exact .inr rfl
      have h1 : ¬ (((stepV st).length : Int) < 1) := by omega
      have h2 : ¬ ((2 : Int) < ((stepV st).length : Int)) := by omega
      cases st <;> exact ⟨_, _, rfl, h1, h2⟩
    have a0 : atI (stepV st) 0 = some (.str k) := atI_nat (j := 0) (by rw [e0]; rfl)
    refine ⟨_, rfl, _, _, _, _, rfl, .tup ht, kit_same _, _, rfl, iteF ⟨_, rfl, t, _, rfl, .inr hT, _, _, rfl, rfl, _, rfl, iteK hl1 ⟨_, rfl, t, _, rfl, .inr hT, _, _, rfl, rfl, _, rfl, iteK hl2 ⟨_, rfl, t, _, _, _, rfl, rfl, hT, a0, _, _, _, _, rfl, .str _, kit_same _, _, rfl, iteF ?_⟩⟩⟩⟩
    cases st with
    | turn z =>
      cases e0
      exact ⟨_, rfl, t, _, _, _, rfl, rfl, hT, rfl, rfl, _, rfl, iteY rfl (iteT ⟨_, rfl, t, _, rfl, .inr hT, rfl, _, rfl, iteY rfl ⟨_, rfl, t, _, _, _, rfl, rfl, hT, rfl, _, _, _, _, rfl, .str _, kit_same _, fin⟩⟩)⟩
    | add z =>
      cases e0
      exact ⟨_, rfl, t, _, _, _, rfl, rfl, hT, rfl, rfl, _, rfl, iteK (by decide +kernel) ⟨_, rfl, t, _, _, _, rfl, rfl, hT, rfl, rfl, _, rfl, iteY rfl ⟨_, rfl, t, _, rfl, .inr hT, rfl, _, rfl, iteY rfl ⟨_, rfl, t, _, _, _, rfl, rfl, hT, rfl, _, _, _, _, rfl, .str _, kit_same _, fin⟩⟩⟩⟩
    | skip m =>
      cases e0
      have hm : (0 : Int) < ((m : Nat) : Int) := by have := ho.1; omega
      refine ⟨_, rfl, t, _, _, _, rfl, rfl, hT, rfl, rfl, _, rfl, iteK (by decide +kernel) ⟨_, rfl, t, _, _, _, rfl, rfl, hT, rfl, rfl, _, rfl, iteK (by decide +kernel) ⟨_, rfl, t, _, _, _, rfl, rfl, hT, rfl, rfl, _, rfl, iteY rfl ⟨_, rfl, t, _, rfl, .inr hT, rfl, _, rfl, iteY rfl ⟨_, rfl, t, _, _, _, rfl, rfl, hT, rfl, _, _, _, _, rfl, .int _, kit_same _, _, rfl, iteT ⟨_, rfl, t, _, _, _, rfl, rfl, hT, rfl, _, _, _, _, rfl, .int _, i6, _, rfl, _, rfl, iteT ⟨_, rfl, t, _, _, _, rfl, rfl, hT, rfl, _, _, rfl, rfl, ?_⟩⟩⟩⟩⟩⟩⟩
      show Q2 (.bl (decide ((0 : Int) < ((m : Nat) : Int)))) H
      rw [decide_eq_true hm]
      exact fin
    | keep => cases e0; exact ⟨_, rfl, t, _, _, _, rfl, rfl, hT, rfl, rfl, _, rfl, iteK (by decide +kernel) ⟨_, rfl, t, _, _, _, rfl, rfl, hT, rfl, rfl, _, rfl, iteK (by decide +kernel) ⟨_, rfl, t, _, _, _, rfl, rfl, hT, rfl, rfl, _, rfl, iteK (by decide +kernel) ⟨_, rfl, t, _, rfl, .inr hT, rfl, fin⟩⟩⟩⟩
    | lose => cases e0; exact ⟨_, rfl, t, _, _, _, rfl, rfl, hT, rfl, rfl, _, rfl, iteK (by decide +kernel) ⟨_, rfl, t, _, _, _, rfl, rfl, hT, rfl, rfl, _, rfl, iteK (by decide +kernel) ⟨_, rfl, t, _, _, _, rfl, rfl, hT, rfl, rfl, _, rfl, iteK (by decide +kernel) ⟨_, rfl, t, _, rfl, .inr hT, rfl, fin⟩⟩⟩⟩
    | twice => cases e0; exact ⟨_, rfl, t, _, _, _, rfl, rfl, hT, rfl, rfl, _, rfl, iteK (by decide +kernel) ⟨_, rfl, t, _, _, _, rfl, rfl, hT, rfl, rfl, _, rfl, iteK (by decide +kernel) ⟨_, rfl, t, _, _, _, rfl, rfl, hT, rfl, rfl, _, rfl, iteK (by decide +kernel) ⟨_, rfl, t, _, rfl, .inr hT, rfl, fin⟩⟩⟩⟩
    | swap => cases e0; exact ⟨_, rfl, t, _, _, _, rfl, rfl, hT, rfl, rfl, _, rfl, iteK (by decide +kernel) ⟨_, rfl, t, _, _, _, rfl, rfl, hT, rfl, rfl, _, rfl, iteK (by decide +kernel) ⟨_, rfl, t, _, _, _, rfl, rfl, hT, rfl, rfl, _, rfl, iteK (by decide +kernel) ⟨_, rfl, t, _, rfl, .inr hT, rfl, fin⟩⟩⟩⟩
def spLWk (K : PySem.W.Frag) : Sp := fun vs H Q _ => ∃ (p q u r t : Addr) (es cs : List Str) (ts : List Addr) (sts : List Sk) (pl : List Nat) (pr : List Int) (ps : List Addr) (G : Nat → Nat → Int), vs = [.ref p, .ref q, .ref u, .ref r, .ref t] ∧ SqT K H p (es.map V.str) ∧ SqT K H q (cs.map V.str) ∧ SqT K H u (ts.map V.ref) ∧ StepsAt K H ts sts ∧ SqT K H r (pr.map V.int) ∧ pr.length = 7 ∧ (∀ z ∈ es, Good z) ∧ sts.length ≤ 1000 ∧ walk es sts (0, [], []) = some (es.length, cs, pl) ∧ NumsAt H t ps es.length cs.length G ∧ Least (fun i st => price es i pr st) es.length cs.length (ways es cs) G ∧ es.length ≤ 1000 ∧ cs.length ≤ 1000 ∧
  ∀ H', Same H H' → Q (.bl true) H'
theorem scLWk : FnScope ["elder", "copy", "steps", "prices", "table", "done", "made", "step", "here", "came"] ["elder", "copy", "steps", "prices", "table"] (defScope sLWk) := ⟨rfl, rfl, rfl, by decide +kernel, rfl, by decide +kernel, by decide +kernel⟩
theorem ok_lwk {f gDo gLP : Addr} {fd dDo dLP : FuncData} (F : Fun K "_law_walked" "_law_walked" sLWk f fd) (DDo : Dfn K mg "_law_does" sDoes gDo dDo ["elder", "done", "copy", "step"]) (DLP : Dfn K mg "_law_price" sLPrice gLP dLP ["elder", "i", "step", "prices"]) (GLP : FnOk P w K mg base CX0 2 gLP dLP ["elder", "i", "step", "prices"] (spPrice K)) (mlen : mg "len" = none) : FnOk P w K mg base CX0 3 f fd ["elder", "copy", "steps", "prices", "table"] (spLWk K) := by
  have GDo : FnOk P w K mg base CX0 2 gDo dDo ["elder", "done", "copy", "step"] (spDoes K) := (ok_does DDo.fn mlen).mono (by decide)
  refine F.ok scLWk (fun vs H Q E h => ?_) (fun cdv A outer s H vs Q E hr h => ?_)
  · obtain ⟨p, q, u, r, t, es, cs, ts, sts, pl, pr, ps, G, rfl, _⟩ := h
    rfl
  · obtain ⟨p, q0, u, r0, t, es, cs, ts, sts, pl, pr, ps, G, rfl, hp, hc, hu, hst, hpr, h7, hg, hsl, hwk, hN, hG, hel, hcl, q⟩ := h
    refine ⟨_, pss_cons (ps_set (i := 5) scLWk.nd rfl (Or.inl rfl) pe_int)
      (pss_cons (ps_set (i := 6) scLWk.nd rfl (Or.inl rfl) (pe_tup pa_nil))
      (pss_cons (ps_for PassesOwn.never rfl (pi_tup (pv 2)) (pg_name (i := 7) scLWk.nd rfl (Or.inl rfl))
      (pss_cons (ps_set (i := 8) scLWk.nd rfl (Or.inl rfl) (pe_ix ix_tup (pe_ix ix_tup (pv 4) (pv 5) (fun _ _ => rfl)) (pe_callB call_len_seq (by rfl) mlen PySem.boot_len (pa_cons (pv 6) pa_nil)) (fun _ _ => rfl)))
      (pss_cons (ps_set (i := 9) scLWk.nd rfl (Or.inl rfl) (pe_call GDo hr (by rfl) DDo.at_ DDo.fn.kp DDo.bn .nil pass0 (pa_cons (pv 0) (pa_cons (pv 5) (pa_cons (pv 6) (pa_cons (pv 7) pa_nil))))))
      (pss_cons (ps_if (pt_cmpR op_gt (pe_ix ix_tup (pe_ix ix_tup (pv 4) (pe_ix ix_tup (pv 9) pe_int (fun _ _ => rfl)) (fun _ _ => rfl)) (pe_callB call_len_seq (by rfl) mlen PySem.boot_len (pa_cons (pe_ix ix_tup (pv 9) pe_int (fun _ _ => rfl)) pa_nil)) (fun _ _ => rfl)) (pe_op op_add (pv 8) (pe_call GLP hr (by rfl) DLP.at_ DLP.fn.kp DLP.bn .nil pass0 (pa_cons (pv 0) (pa_cons (pv 5) (pa_cons (pv 7) (pa_cons (pv 3) pa_nil)))))) (nomark _)) (pss_one (ps_ret pe_bl)) pss_nil)
      (pss_cons (ps_set (i := 5) scLWk.nd rfl (Or.inl rfl) (pe_ix ix_tup (pv 9) pe_int (fun _ _ => rfl)))
      (pss_one (ps_set (i := 6) scLWk.nd rfl (Or.inl rfl) (pe_ix ix_tup (pv 9) pe_int (fun _ _ => rfl)))))))))
      (pss_one (ps_ret (pe_and (pe_cmpR (op_eqS hr.units) (pv 6) (pv 1) (nomark _)) (pe_one (pe_cmpR op_eq (pv 5) (pe_callB call_len_seq (by rfl) mlen PySem.boot_len (pa_cons (pv 0) pa_nil)) (nomark _)))))))), ?_⟩
    refine ⟨Nat.zero_le _, fun c0 hc0 => ?_⟩
    have S0 := same_upd (o := .tup []) hc0
    refine ⟨_, rfl, u, rfl, ⟨_, sameT S0 hu⟩, for_tup (K := K) (a := u) (xs := ts.map V.ref) (fun i σ H2 => ∃ (d : Nat) (cp : List Str) (plk : List Nat) (c : Addr) (v7 v8 v9 : Option V), σ = [some (.ref p), some (.ref q0), some (.ref u), some (.ref r0), some (.ref t), some (.int (d : Nat)), some (.ref c), v7, v8, v9] ∧
      SqT K H2 c (cp.map V.str) ∧ Same H H2 ∧ walk es (sts.take i) (0, [], []) = some (d, cp, plk) ∧ cp.length ≤ cs.length ∧ d ≤ es.length)
      ⟨0, [], [], c0, none, none, none, rfl, SqT.of upd_same, S0, rfl, Nat.zero_le _, Nat.zero_le _⟩ (fun i σ H2 _ ⟨_, _, _, _, _, _, _, _, _, S, _⟩ => sameT S hu) ?_ ?_⟩
    · rintro i y σ H2 hi ⟨d, cp, plk, c, v7, v8, v9, rfl, hcp, S, hw, hcl2, hde⟩
      obtain ⟨x, hti, rfl⟩ := ref_at hi
      have hil : i < ts.length := (List.getElem?_eq_some_iff.mp hti).1
      have hil' : i < sts.length := by rw [← hst.len]; exact hil
      have hsi : sts[i]? = some sts[i] := List.getElem?_eq_getElem hil'
      generalize hgs : sts[i] = st at hsi
      obtain ⟨hT, hO⟩ := hst.item i x st hti hsi
      obtain ⟨d', ws, ha, hw'⟩ := walk_at hwk hsi hw
      obtain ⟨hm, h3, e1⟩ := walk_way hwk hsi hw ha hO
      have hg2 := hG.le d cp.length hde hcl2 _ hm
      have hg2 : G d' (cp.length + ws.length) ≤ G d cp.length + price es d pr st := hg2
      have hde' := after_le ha hde
      have hN2 := hN.mono S
      obtain ⟨z1, az1, hz1⟩ := nums_line hN2 hde
      refine ⟨_, rfl, _, rfl, t, _, _, _, rfl, rfl, SqT.of hN2.top, az1, _, rfl, c, _, rfl, .inr hcp, z1, _, _, _, rfl, rfl, SqT.of hz1, (by rw [List.length_map]; exact nums_at _ hcl2), ?_⟩
      refine ⟨_, rfl, _, rfl, _, rfl, _, rfl, p, x, c, es, cp, d, st, rfl, sameT S hp, hcp, sameT S hT, hO, hde, by omega, ?_⟩
      rw [ha]
      intro H3 x3 y3 S3 hy3 hx3
      have S03 := S.trans S3
      have hN3 := hN.mono S03
      obtain ⟨z2, az2, hz2⟩ := nums_line hN3 hde'
      refine ⟨_, rfl, _, rfl, x3, _, _, _, rfl, rfl, SqT.of hx3, rfl, t, _, _, _, rfl, rfl, SqT.of hN3.top, az2, _, rfl, x3, _, _, _, rfl, rfl, SqT.of hx3, rfl, y3, _, rfl, .inr hy3, z2, _, _, _, rfl, rfl, SqT.of hz2, (by rw [List.length_map, List.length_append]; exact nums_at _ h3), _, rfl, _, rfl, _, rfl, _, rfl, _, rfl, p, x, r0, es, d, st, pr, rfl, sameT S03 hp, hg, sameT S03 hT, hO, after_turn ha, sameT S03 hpr, h7, _, _, rfl, rfl, _, _, rfl, rfl, _, rfl, ?_⟩
      refine iteK (show ¬ (G d cp.length + price es d pr st < G d' (cp.length + ws.length)) by omega) ?_
      refine ⟨_, rfl, x3, _, _, _, rfl, rfl, SqT.of hx3, rfl, ?_⟩
      refine ⟨_, rfl, x3, _, _, _, rfl, rfl, SqT.of hx3, rfl, ?_⟩
      exact ⟨d', cp ++ ws, _, y3, _, _, _, rfl, hy3, S03, hw', by rw [List.length_append]; exact h3, hde'⟩
    · rintro σ H2 ⟨d, cp, plk, c, v7, v8, v9, rfl, hcp, S, hw, hcl2, hde⟩
      rw [List.length_map, hst.len, List.take_length, hwk] at hw
      cases hw
      refine ⟨_, rfl, _, rfl, 0, _, by decide, EqS.strs (.inr ⟨hcp, sameT S hc⟩), _, rfl, ?_⟩
      rw [decide_eq_true rfl]
      refine iteT ⟨_, rfl, _, rfl, p, _, rfl, .inr (sameT S hp), rfl, ?_⟩
      rw [List.length_map, decide_eq_true rfl]
      exact q _ S
def spTW (K : PySem.W.Frag) : Sp := fun vs H Q _ => ∃ (x r : Addr) (pr : List Int), vs = [.ref x, .ref r] ∧ Pair4 H x ∧ SqT K H r (pr.map V.int) ∧ pr.length = 7 ∧ ∀ H', Same H H' → Q (.bl true) H'
theorem scTW : FnScope ["pair", "prices", "elder", "copy", "found", "price"] ["pair", "prices"] (defScope sTW) := ⟨rfl, rfl, rfl, by decide +kernel, rfl, by decide +kernel, by decide +kernel⟩
theorem nd_step : (["step"] : List Str).Nodup := by decide +kernel
theorem ok_tw {f gLs gFm gIs gMd gWk : Addr} {fd dLs dFm dIs dMd dWk : FuncData} (F : Fun K "_law_told_well" "_law_told_well" sTW f fd) (DLs : Dfn K mg "least_slips" sLs gLs dLs ["elder", "copy", "prices"]) (GLs : FnOk P w K mg base CX0 5 gLs dLs ["elder", "copy", "prices"] (spLs K)) (DFm : Dfn K mg "_law_formed" sFormed gFm dFm ["table", "tall", "wide"]) (GFm : FnOk P w K mg base CX0 5 gFm dFm ["table", "tall", "wide"] (spFormed K)) (DIs : Dfn K mg "_law_is_step" sIs gIs dIs ["step"]) (GIs : FnOk P w K mg base CX0 5 gIs dIs ["step"] spIs) (DMd : Dfn K mg "_law_made" sMade gMd dMd ["elder", "steps", "prices"]) (GMd : FnOk P w K mg base CX0 5 gMd dMd ["elder", "steps", "prices"] (spMade K)) (DWk : Dfn K mg "_law_walked" sLWk gWk dWk ["elder", "copy", "steps", "prices", "table"]) (GWk : FnOk P w K mg base CX0 5 gWk dWk ["elder", "copy", "steps", "prices", "table"] (spLWk K))
    (mlen : mg "len" = none) (misi : mg "isinstance" = none) (mtup : mg "tuple" = none) (mint : mg "int" = none) (mbool : mg "bool" = none) (mall : mg "all" = none) (i6 : PySem.W.kitOne K (.type "int") (.type "bool") = some false) : FnOk P w K mg base CX0 6 f fd ["pair", "prices"] (spTW K) := by
  refine F.ok scTW (fun vs H Q E h => ?_) (fun cdv A outer s H vs Q E hr h => ?_)
  · obtain ⟨x, r, pr, rfl, _⟩ := h
    rfl
  · obtain ⟨x, r0, pr, rfl, ⟨e, c, s0, n, es, cs, ss, hx, he, hc, hs, ⟨ds, dts, pl, rfl, hD, hwk⟩, ge, gc, le, lc, ls⟩, hpr, h7, q⟩ := h
    refine ⟨_, pss_cons (ps_set (i := 2) scTW.nd rfl (Or.inl rfl) (pe_ix ix_tup (pv 0) pe_int (fun _ _ => rfl)))
      (pss_cons (ps_set (i := 3) scTW.nd rfl (Or.inl rfl) (pe_ix ix_tup (pv 0) pe_int (fun _ _ => rfl)))
      (pss_cons (ps_set (i := 4) scTW.nd rfl (Or.inl rfl) (pe_call GLs hr (by rfl) DLs.at_ DLs.fn.kp DLs.bn .nil pass0 (pa_cons (pv 2) (pa_cons (pv 3) (pa_cons (pv 1) pa_nil)))))
      (pss_cons (ps_if (PW.pt (pw_or (pt_not (pt_val (pe_callB call_isi (by rfl) misi boot_isinstance (pa_cons (pv 4) (pa_cons (pe_bltn (v := .ty "tuple") (by rfl) mtup boot_tuple rfl) pa_nil))))) (pw_or (pt_cmpR op_ne (pe_callB call_len_seq (by rfl) mlen PySem.boot_len (pa_cons (pv 4) pa_nil)) pe_int (nomark _)) (pw_or1 (pt_not (pt_val (pe_call GFm hr (by rfl) DFm.at_ DFm.fn.kp DFm.bn .nil pass0 (pa_cons (pe_ix ix_tup (pv 4) pe_int (fun _ _ => rfl)) (pa_cons (pe_op op_add (pe_callB call_len_seq (by rfl) mlen PySem.boot_len (pa_cons (pv 2) pa_nil)) pe_int) (pa_cons (pe_op op_add (pe_callB call_len_seq (by rfl) mlen PySem.boot_len (pa_cons (pv 3) pa_nil)) pe_int) pa_nil)))))))))) (pss_one (ps_ret pe_bl)) pss_nil)
      (pss_cons (ps_if (PW.pt (pw_or (pt_not (pt_val (pe_callB call_isi (by rfl) misi boot_isinstance (pa_cons (pe_ix ix_tup (pv 4) pe_int (fun _ _ => rfl)) (pa_cons (pe_bltn (v := .ty "tuple") (by rfl) mtup boot_tuple rfl) pa_nil))))) (pw_or1 (pt_not (pt_val (pe_callB (call_all rfl) (by rfl) mall boot_all (pa_cons (pe_comp (Nc := ["step"]) (mp := [none]) rfl (CompOk.of (by rfl)) (pi_tup (pe_ix ix_tup (pv 4) pe_int (fun _ _ => rfl))) (fun cl C s H fp => ⟨pg_name (i := 0) nd_step rfl (Or.inl rfl), pts_nil, (pe_call GIs hr (by rfl) DIs.at_ DIs.fn.kp DIs.bn .nil pass0 (pa_cons (pv 0) pa_nil))⟩)) pa_nil))))))) (pss_one (ps_ret pe_bl)) pss_nil)
      (pss_cons (ps_set (i := 5) scTW.nd rfl (Or.inl rfl) (pe_ix ix_tup (pe_call GMd hr (by rfl) DMd.at_ DMd.fn.kp DMd.bn .nil pass0 (pa_cons (pv 2) (pa_cons (pe_ix ix_tup (pv 0) pe_int (fun _ _ => rfl)) (pa_cons (pv 1) pa_nil)))) pe_int (fun _ _ => rfl)))
      (pss_cons (ps_if (PW.pt (pw_or (pt_not (pt_val (pe_callB call_isi (by rfl) misi boot_isinstance (pa_cons (pe_ix ix_tup (pv 4) pe_int (fun _ _ => rfl)) (pa_cons (pe_bltn (v := .ty "int") (by rfl) mint boot_int rfl) pa_nil))))) (pw_or (pt_val (pe_callB call_isi (by rfl) misi boot_isinstance (pa_cons (pe_ix ix_tup (pv 4) pe_int (fun _ _ => rfl)) (pa_cons (pe_bltn (v := .ty "bool") (by rfl) mbool boot_bool rfl) pa_nil)))) (pw_or1 (pt_cmpR op_gt (pe_ix ix_tup (pv 4) pe_int (fun _ _ => rfl)) (pv 5) (nomark _)))))) (pss_one (ps_ret pe_bl)) pss_nil)
      (pss_cons (ps_if (pt_cmpR (op_neS hr.units) (pe_call GMd hr (by rfl) DMd.at_ DMd.fn.kp DMd.bn .nil pass0 (pa_cons (pv 2) (pa_cons (pe_ix ix_tup (pv 4) pe_int (fun _ _ => rfl)) (pa_cons (pv 1) pa_nil)))) (pe_tup (pa_cons (pv 3) (pa_cons (pe_ix ix_tup (pv 4) pe_int (fun _ _ => rfl)) pa_nil))) (nomark _)) (pss_one (ps_ret pe_bl)) pss_nil)
      (pss_cons (ps_if (PW.pt (pw_or (pt_cmpR op_ne (pe_ix ix_tup (pe_ix ix_tup (pe_ix ix_tup (pv 4) pe_int (fun _ _ => rfl)) pe_int (fun _ _ => rfl)) pe_int (fun _ _ => rfl)) pe_int (nomark _)) (pw_or1 (pt_cmpR op_ne (pe_ix ix_tup (pe_ix ix_tup (pe_ix ix_tup (pv 4) pe_int (fun _ _ => rfl)) (pe_un un_neg pe_int) (fun _ _ => rfl)) (pe_un un_neg pe_int) (fun _ _ => rfl)) (pe_ix ix_tup (pv 4) pe_int (fun _ _ => rfl)) (nomark _))))) (pss_one (ps_ret pe_bl)) pss_nil)
      (pss_one (ps_ret (pe_call GWk hr (by rfl) DWk.at_ DWk.fn.kp DWk.bn .nil pass0 (pa_cons (pv 2) (pa_cons (pv 3) (pa_cons (pe_ix ix_tup (pv 0) pe_int (fun _ _ => rfl)) (pa_cons (pv 1) (pa_cons (pe_ix ix_tup (pv 4) pe_int (fun _ _ => rfl)) pa_nil)))))))))))))))), ?_⟩
    have hX : SqT K H x [.ref e, .ref c, .ref s0, .int n] := SqT.of hx
    have hdl : dts.length ≤ 63 := by rw [← hD.len]; rw [List.length_map] at ls; exact ls
    refine ⟨_, rfl, x, _, _, _, rfl, rfl, hX, rfl, ?_⟩
    refine ⟨_, rfl, x, _, _, _, rfl, rfl, hX, rfl, ?_⟩
    refine ⟨_, rfl, _, rfl, _, rfl, e, c, r0, es, cs, pr, rfl, SqT.of he, SqT.of hc, hpr, ge, gc, by omega, by omega, h7, fun H1 y t tt ts sts R ps G S1 hy ht hT hR hto hsl hN hG => ?_⟩
    have hY : SqT K H1 y [.int (R 0 0), .ref t, .ref tt] := SqT.of hy
    have rl := (rest_least (ways_fwd es cs) hG hR).1
    refine ⟨_, rfl, _, _, _, _, rfl, .tup hy, kit_same _, _, rfl, iteF ⟨_, rfl, y, _, rfl, .inr hY, rfl, _, rfl, iteNS rfl ⟨_, rfl, y, _, _, _, rfl, rfl, hY, rfl, _, rfl, e, _, rfl, .inr (SqT.of (S1 _ _ he)), _, _, rfl, rfl, _, rfl, c, _, rfl, .inr (SqT.of (S1 _ _ hc)), _, _, rfl, rfl, tt, ps, es.length, cs.length, G, (by rw [List.length_map, List.length_map]; rfl), hN, by omega, by omega, _, rfl, iteF ?_⟩⟩⟩
    refine ⟨_, rfl, y, _, _, _, rfl, rfl, hY, rfl, _, _, _, _, rfl, .tup ht, kit_same _, _, rfl, iteF ⟨_, rfl, y, _, _, _, rfl, rfl, hY, rfl, t, rfl, ⟨_, SqT.of ht⟩, ?_⟩⟩
    have hzl : (ts.zip sts).length = ts.length := by rw [List.length_zip, hT.len]; exact Nat.min_self _
    have etop : (ts.zip sts).map (fun x => V.ref x.1) = ts.map V.ref := by
      rw [show (fun x : Addr × Sk => V.ref x.1) = V.ref ∘ Prod.fst from rfl, ← List.map_map, List.map_fst_zip (by rw [hT.len]; exact Nat.le_refl _)]
    refine comp_map (as := ts.zip sts) (v := fun x => V.ref x.1) (fun _ => .bl true) (src_tup (by rw [etop]; exact SqT.of ht)) (by rw [hzl, hT.len]; exact few (by omega)) (fun a ha k hk => ?_) (fun D1 hD1 => ?_)
    · obtain ⟨i, hi⟩ := List.mem_iff_getElem?.mp ha
      obtain ⟨z1, z2⟩ := List.getElem?_zip_eq_some.mp hi
      obtain ⟨i1, i2⟩ := hT.item i _ _ z1 z2
      exact ⟨_, rfl, a.1, a.2, rfl, i1, i2, hk⟩
    have SD := same_upd (o := .lst ((ts.zip sts).map fun _ => V.bl true)) hD1
    have hDl := upd_same (H := H1) (a := D1) (o := .lst ((ts.zip sts).map fun _ => V.bl true))
    generalize upd H1 D1 (.lst ((ts.zip sts).map fun _ => V.bl true)) = H2 at SD hDl
    refine ⟨D1, (ts.zip sts).map fun _ => true, rfl, SqL.of (by rw [hDl, List.map_map]; rfl), _, rfl, ?_⟩
    rw [show ((ts.zip sts).map fun _ => true).all id = true by rw [List.all_eq_true]; intro x hx; obtain ⟨_, _, rfl⟩ := List.mem_map.mp hx; rfl]
    refine iteF ?_
    have S2 := S1.trans SD
    refine ⟨_, rfl, _, rfl, x, _, _, _, rfl, rfl, sameT S2 hX, rfl, _, rfl, e, s0, r0, es, ds, dts, pr, rfl, SqT.of (S2 _ _ he), ge, SqT.of (S2 _ _ hs), (hD.mono S2).at, by omega, sameT S2 hpr, h7, ?_⟩
    rw [walk_lmade hwk]
    intro H3 x3 y3 S3 hy3 hx3
    refine ⟨x3, _, _, _, rfl, rfl, SqT.of hx3, rfl, ?_⟩
    have S03 := S2.trans S3
    have hY3 := sameT (SD.trans S3) hY
    refine ⟨_, rfl, y, _, _, _, rfl, rfl, hY3, rfl, _, _, _, _, rfl, .int _, kit_same _, _, rfl, iteF ⟨_, rfl, y, _, _, _, rfl, rfl, hY3, rfl, _, _, _, _, rfl, .int _, i6, _, rfl, iteF ⟨_, rfl, y, _, _, _, rfl, rfl, hY3, rfl, _, rfl, _, _, rfl, rfl, _, rfl, iteK ?_ ?_⟩⟩⟩
    · have := walk_cost (pr := pr) hG hwk (fun st hst => by
        obtain ⟨i, hi⟩ := List.mem_iff_getElem?.mp hst
        have hil : i < ds.length := by rw [hD.len]; exact (List.getElem?_eq_some_iff.mp hi).1
        exact (hD.item i _ _ (List.getElem?_eq_getElem hil) hi).2)
      omega
    refine ⟨_, rfl, _, rfl, y, _, _, _, rfl, rfl, hY3, rfl, _, rfl, e, t, r0, es, ts, sts, pr, rfl, SqT.of (S03 _ _ he), ge, SqT.of ((SD.trans S3) _ _ ht), (hT.mono (SD.trans S3)).at, by omega, sameT S03 hpr, h7, ?_⟩
    rw [told_lmade hR hto]
    intro H4 x4 y4 S4 hy4 hx4
    have S04 := S03.trans S4
    refine ⟨_, rfl, _, rfl, y, _, _, _, rfl, rfl, sameT S4 hY3, rfl, few (by show 2 ≤ _; omega), fun t5 ht5 => ?_⟩
    have T5 := same_upd (o := .tup [V.ref c, .int (R 0 0)]) ht5
    have h5x := T5 _ _ hx4
    have h55 := upd_same (H := H4) (a := t5) (o := .tup [V.ref c, .int (R 0 0)])
    have h5y := sameT T5 hy4
    have S05 := S04.trans T5
    have hN5 := (((hN.mono SD).mono S3).mono S4).mono T5
    have hY5 := sameT T5 (sameT S4 hY3)
    generalize upd H4 t5 (.tup [V.ref c, .int (R 0 0)]) = H5 at T5 h5x h55 h5y S05 hN5 hY5
    refine ⟨1, true, by decide, EqS.yes (.inr ⟨SqT.of h5x, SqT.of h55⟩) rfl (fun i u v hu hv => ?_), _, rfl, iteF ?_⟩
    · match i, hu, hv with
      | 0, hu, hv =>
        cases hu; cases hv
        have := EqS.strs (K := K) (H := H5) (.inr ⟨h5y, SqT.of (S05 _ _ hc)⟩)
        rw [decide_eq_true rfl] at this
        exact this.q
      | 1, hu, hv =>
        cases hu; cases hv
        exact EqQ.self rfl 1
      | n + 2, hu, hv => simp at hu
    obtain ⟨z1, az1, hz1⟩ := nums_line hN5 (Nat.zero_le es.length)
    obtain ⟨z2, az2, hz2, az3⟩ := nums_last hN5
    refine ⟨_, rfl, y, _, _, _, rfl, rfl, hY5, rfl, tt, _, _, _, rfl, rfl, SqT.of hN5.top, az1, z1, _, _, _, rfl, rfl, SqT.of hz1, nums_at _ (Nat.zero_le _), rfl, _, rfl, ?_⟩
    rw [show decide (V.int (G 0 0) = V.int 0) = true by rw [hG.z]; rfl]
    refine iteF ⟨_, rfl, y, _, _, _, rfl, rfl, hY5, rfl, _, rfl, tt, _, _, _, rfl, rfl, SqT.of hN5.top, az2, _, rfl, z2, _, _, _, rfl, rfl, SqT.of hz2, az3, _, rfl, y, _, _, _, rfl, rfl, hY5, rfl, rfl, _, rfl, ?_⟩
    rw [rl, show decide (V.int (R 0 0) = V.int (R 0 0)) = true from decide_eq_true rfl]
    refine iteF ?_
    exact ⟨_, rfl, _, rfl, _, rfl, x, _, _, _, rfl, rfl, sameT S05 hX, rfl, _, rfl, _, rfl, y, _, _, _, rfl, rfl, hY5, rfl, e, c, s0, r0, tt, es, cs, ds, dts, pl, pr, ps, G, rfl, SqT.of (S05 _ _ he), SqT.of (S05 _ _ hc), SqT.of (S05 _ _ hs), (hD.mono S05).at, sameT S05 hpr, h7, ge, by omega, hwk, hN5, hG, by omega, by omega, fun H6 S6 => q _ (S05.trans S6)⟩
def spLaw (K : PySem.W.Frag) : Sp := fun vs H Q _ => ∃ (a : Addr) (ns : List Int), vs = [.ref a] ∧ SqL K H a (ns.map V.int) ∧ ns.length ≤ 63 ∧ (∀ m ∈ ns, Builtin.Int.intBits m ≤ 1048576) ∧ ∀ H', Q (.bl true) H'
theorem scLaw : FnScope ["script", "prices", "pair", "found"] ["script"] (defScope sLaw) := ⟨rfl, rfl, rfl, by decide +kernel, rfl, by decide +kernel, by decide +kernel⟩
theorem nd_word : (["word"] : List Str).Nodup := by decide +kernel
theorem ok_law {f gC gPr gMP gTW gLs : Addr} {fd dC dPr dMP dTW dLs : FuncData} (F : Fun K "law" "law" sLaw f fd) (DC : Dfn K mg "_law_cell_at" sCell gC dC ["script", "k"]) (GC : FnOk P w K mg base CX0 6 gC dC ["script", "k"] (spCell K)) (DPr : Dfn K mg "_law_prices" sPrices gPr dPr ["cell"]) (GPr : FnOk P w K mg base CX0 6 gPr dPr ["cell"] spPrices) (DMP : Dfn K mg "_law_made_pairs" sMP gMP dMP ["script", "many"]) (GMP : FnOk P w K mg base CX0 6 gMP dMP ["script", "many"] (spMP K)) (DTW : Dfn K mg "_law_told_well" sTW gTW dTW ["pair", "prices"]) (GTW : FnOk P w K mg base CX0 6 gTW dTW ["pair", "prices"] (spTW K)) (DLs : Dfn K mg "least_slips" sLs gLs dLs ["elder", "copy", "prices"]) (GLs : FnOk P w K mg base CX0 6 gLs dLs ["elder", "copy", "prices"] (spLs K)) (mtup : mg "tuple" = none) : FnOk P w K mg base CX0 7 f fd ["script"] (spLaw K) := by
  refine F.ok scLaw (fun vs H Q E h => ?_) (fun cdv A outer s H vs Q E hr h => ?_)
  · obtain ⟨a, ns, rfl, _⟩ := h
    rfl
  · obtain ⟨a, ns, rfl, hS, hn, hb, q⟩ := h
    refine ⟨_, pss_cons (ps_set (i := 1) scLaw.nd rfl (Or.inl rfl) (pe_call GPr hr (by rfl) DPr.at_ DPr.fn.kp DPr.bn .nil pass0 (pa_cons (pe_call GC hr (by rfl) DC.at_ DC.fn.kp DC.bn .nil pass0 (pa_cons (pv 0) (pa_cons pe_int pa_nil))) pa_nil)))
      (pss_cons (ps_for PassesOwn.never rfl (pi_list (pe_call GMP hr (by rfl) DMP.at_ DMP.fn.kp DMP.bn .nil pass0 (pa_cons (pv 0) (pa_cons pe_int pa_nil)))) (pg_name (i := 2) scLaw.nd rfl (Or.inl rfl))
      (pss_cons (ps_if (pt_not (pt_val (pe_call GTW hr (by rfl) DTW.at_ DTW.fn.kp DTW.bn .nil pass0 (pa_cons (pv 2) (pa_cons (pv 1) pa_nil))))) (pss_one (ps_ret pe_bl)) pss_nil)
      (pss_cons (ps_set (i := 3) scLaw.nd rfl (Or.inl rfl) (pe_call GLs hr (by rfl) DLs.at_ DLs.fn.kp DLs.bn .nil pass0 (pa_cons (pe_ix ix_tup (pv 2) pe_int (fun _ _ => rfl)) (pa_cons (pe_ix ix_tup (pv 2) pe_int (fun _ _ => rfl)) (pa_cons (pv 1) pa_nil)))))
      (pss_one (ps_if (PW.pt (pw_or (pt_cmpR op_ne (pe_ix ix_tup (pv 3) pe_int (fun _ _ => rfl)) pe_int (nomark _)) (pw_or1 (pt_cmpR (op_neS hr.units) (pe_ix ix_tup (pv 3) pe_int (fun _ _ => rfl)) (pe_callTy call_tuple_of (by rfl) mtup boot_tuple (pa_cons (pe_comp (Nc := ["word"]) (mp := [none]) rfl (CompOk.of (by rfl)) (pi_tup (pe_ix ix_tup (pv 2) pe_int (fun _ _ => rfl))) (fun cl C s H fp => ⟨pg_name (i := 0) nd_word rfl (Or.inl rfl), pts_nil, (pe_tup (pa_cons pe_str pa_nil))⟩)) pa_nil)) (nomark _))))) (pss_one (ps_ret pe_bl)) pss_nil)))))
      (pss_one (ps_ret pe_bl))), ?_⟩
    refine ⟨_, rfl, a, ns, 1, rfl, hS, by decide, _, rfl, bits_cell hb 1, fun H1 r0 pr S1 hpr h7 hp0 => ?_⟩
    refine ⟨_, rfl, a, ns, 4, rfl, S1.seq hS, hb, hn, rfl, fun H2 lp xs S2 hlp hP hxl => ?_⟩
    refine ⟨lp, rfl, ⟨_, SqL.of hlp⟩, for_list (K := K) (a := lp) (xs := xs.map V.ref) (fun i σ H3 => ∃ v2 v3 : Option V, σ = [some (.ref a), some (.ref r0), v2, v3] ∧ Same H2 H3) ⟨none, none, rfl, Same.refl _⟩ (fun i σ H3 _ ⟨_, _, _, S⟩ => SqL.of (S _ _ hlp)) ?_ ?_⟩
    · rintro k y σ H3 hk ⟨v2, v3, rfl, S3⟩
      obtain ⟨x, hxk, rfl⟩ := ref_at hk
      have hP3 := (hP x (List.mem_of_getElem? hxk)).mono S3
      have hpr3 := SqT.of (K := K) ((S2.trans S3) _ _ hpr)
      refine ⟨_, rfl, _, rfl, x, r0, pr, rfl, hP3, hpr3, h7, fun H4 S4 => ⟨_, rfl, iteF ?_⟩⟩
      obtain ⟨e, c, s0, n, es, cs, ss, hx, he, hc, hs, _, ge, gc, le, lc, ls⟩ := hP3.mono S4
      refine ⟨_, rfl, x, _, _, _, rfl, rfl, SqT.of hx, rfl, _, rfl, x, _, _, _, rfl, rfl, SqT.of hx, rfl, _, rfl, c, c, r0, cs, cs, pr, rfl, SqT.of hc, SqT.of hc, sameT S4 hpr3, gc, gc, by omega, by omega, h7, fun H5 y t tt ts sts R ps G S5 hy ht hT hR hto hsl hN hG => ?_⟩
      have hp1 : ∀ z ∈ pr, 0 ≤ z := fun z hz => (hp0 z hz).1
      have e0 : R 0 0 = 0 := self_rest hp1 hR _ 0 (Nat.zero_le _) (Nat.le_refl _)
      have e1 := self_told hp1 hR sts 0 (Nat.zero_le _) hto
      rw [Nat.sub_zero] at e1
      subst e1
      have hY : SqT K H5 y [.int (R 0 0), .ref t, .ref tt] := SqT.of hy
      refine ⟨_, rfl, y, _, _, _, rfl, rfl, hY, rfl, rfl, _, rfl, ?_⟩
      rw [e0, show decide (V.int 0 = V.int 0) = true from decide_eq_true rfl]
      refine iteF ⟨_, rfl, y, _, _, _, rfl, rfl, hY, rfl, _, rfl, x, _, _, _, rfl, rfl, SqT.of (S5 _ _ hx), rfl, c, rfl, ⟨_, SqT.of (S5 _ _ hc)⟩, ?_⟩
      refine comp_grow (as := cs) (v := V.str) (fun i acc H' => ∃ us : List Addr, acc = us.map V.ref ∧ us.length = i ∧ TupsAt H' us (List.replicate i .keep) ∧ Same H5 H') (fun i acc H' _ ⟨_, _, _, _, S⟩ => src_tup (SqT.of (S _ _ (S5 _ _ hc)))) (few (by omega)) ⟨[], rfl, rfl, TupsAt.nil, Same.refl _⟩ (fun i acc H' ⟨us, e, hl, _⟩ => by rw [e, List.length_map, hl]) ?_ ?_
      · rintro i z acc H' hz ⟨us, rfl, hul, hU, S⟩ kk hkk
        refine ⟨few (by show 1 ≤ _; omega), fun u hu => hkk _ _ ⟨us ++ [u], by rw [List.map_append]; rfl, by rw [List.length_append, hul]; rfl, ?_, S.trans (same_upd hu)⟩⟩
        rw [List.replicate_succ']
        exact (hU.mono (same_upd hu)).app (TupsAt.one upd_same trivial)
      rintro acc H' ⟨us, rfl, hul, hU, S⟩ D1 hD1
      have SD := same_upd (o := .lst (us.map V.ref)) hD1
      refine ⟨D1, _, rfl, .inl ⟨SqL.of upd_same, fun u hu => ?_⟩⟩
      have Su := same_upd (o := .tup (us.map V.ref)) hu
      have S6 := (S.trans SD).trans Su
      have hU6 := hU.mono (SD.trans Su)
      have hT6 := hT.mono S6
      refine ⟨1, true, by decide, EqS.yes (.inr ⟨SqT.of (S6 _ _ ht), SqT.of upd_same⟩) (by rw [List.length_map, List.length_map, hT.len, hul, List.length_replicate]) (fun i v w hv hw => ?_), _, rfl, iteF ⟨_, _, rfl, ((S3.trans S4).trans S5).trans S6⟩⟩
      obtain ⟨a1, h1, rfl⟩ := ref_at hv
      obtain ⟨b1, h2, rfl⟩ := ref_at hw
      have hi : i < cs.length := by rw [← hul]; exact (List.getElem?_eq_some_iff.mp h2).1
      have ei : (List.replicate cs.length Sk.keep)[i]? = some .keep := by rw [List.getElem?_replicate, if_pos hi]
      exact (EqS.same (K := K) (.inr ⟨SqT.of (hT6.item i a1 _ h1 ei).1, SqT.of (hU6.item i b1 _ h2 ei).1⟩) rfl).q
    · rintro σ H3 ⟨v2, v3, rfl, S3⟩
      exact q _
theorem ok_all {f gLooks gPrice gSwW gSkL gWays gEmp gTld gPtab gRtab gCW gFC gLs gCell gStir gNext gWord gPrices gEye gSlip gPair gMP gLAlk gLPrice gFormed gDoes gMade gLWk gIs gTW aD : Addr} {fd dLooks dPrice dSwW dSkL dWays dEmp dTld dPtab dRtab dCW dFC dLs dCell dStir dNext dWord dPrices dEye dSlip dPair dMP dLAlk dLPrice dFormed dDoes dMade dLWk dIs dTW : FuncData} {esD : Array DictEntry} {nD : Nat} (F : Fun K "law" "law" sLaw f fd)
    (DLooks : Dfn K mg "looks_alike" sLooks gLooks dLooks ["one", "two"])
    (DPrice : Dfn K mg "step_price" sPrice gPrice dPrice ["elder", "done", "step", "prices"])
    (DSwW : Dfn K mg "swap_writes" sSwW gSwW dSwW ["elder", "copy", "i", "j"])
    (DSkL : Dfn K mg "skip_lengths" sSkL gSkL dSkL ["elder", "i"])
    (DWays : Dfn K mg "knot_ways" sWays gWays dWays ["elder", "copy", "i", "j"])
    (DEmp : Dfn K mg "empty_table" sEmp gEmp dEmp ["elder", "copy"])
    (DTld : Dfn K mg "table_told" sTld gTld dTld ["table"])
    (DPtab : Dfn K mg "price_table" sPtab gPtab dPtab ["elder", "copy", "prices"])
    (DRtab : Dfn K mg "rest_table" sRtab gRtab dRtab ["elder", "copy", "prices"])
    (DCW : Dfn K mg "cheapest_ways" sCW gCW dCW ["elder", "copy", "prices", "rest", "i", "j"])
    (DFC : Dfn K mg "first_cheapest" sFC gFC dFC ["elder", "copy", "prices"])
    (DLs : Dfn K mg "least_slips" sLs gLs dLs ["elder", "copy", "prices"])
    (DCell : Dfn K mg "_law_cell_at" sCell gCell dCell ["script", "k"])
    (DStir : Dfn K mg "_law_stir" sStir gStir dStir ["cell"])
    (DNext : Dfn K mg "_law_next" sNext gNext dNext ["left"])
    (DWord : Dfn K mg "_law_word" sWord gWord dWord ["seed", "code"])
    (DPrices : Dfn K mg "_law_prices" sPrices gPrices dPrices ["cell"])
    (DEye : Dfn K mg "_law_eye" sEye gEye dEye ["elder", "left", "seed", "most"])
    (DSlip : Dfn K mg "_law_slip" sSlip gSlip dSlip ["elder", "copy", "steps", "left", "words"])
    (DPair : Dfn K mg "_law_pair" sPair gPair dPair ["cells", "seed", "most"])
    (DMP : Dfn K mg "_law_made_pairs" sMP gMP dMP ["script", "many"])
    (DLAlk : Dfn K mg "_law_alike" sLAlk gLAlk dLAlk ["one", "two"])
    (DLPrice : Dfn K mg "_law_price" sLPrice gLPrice dLPrice ["elder", "i", "step", "prices"])
    (DFormed : Dfn K mg "_law_formed" sFormed gFormed dFormed ["table", "tall", "wide"])
    (DDoes : Dfn K mg "_law_does" sDoes gDoes dDoes ["elder", "done", "copy", "step"])
    (DMade : Dfn K mg "_law_made" sMade gMade dMade ["elder", "steps", "prices"])
    (DLWk : Dfn K mg "_law_walked" sLWk gLWk dLWk ["elder", "copy", "steps", "prices", "table"])
    (DIs : Dfn K mg "_law_is_step" sIs gIs dIs ["step"])
    (DTW : Dfn K mg "_law_told_well" sTW gTW dTW ["pair", "prices"])
    (mlen : mg "len" = none) (mrange : mg "range" = none) (misi : mg "isinstance" = none) (mtup : mg "tuple" = none) (mstr : mg "str" = none) (mint : mg "int" = none) (mbool : mg "bool" = none) (mmax : mg "max" = none) (mmin : mg "min" = none) (mall : mg "all" = none)
    {tk : Tok} (mLIKE : mg "LIKE" = some (.int 0 tk)) (mPP : mg "PRICE_PLACES" = some (.ref aD)) (i6 : PySem.W.kitOne K (.type "int") (.type "bool") = some false) (PL : Places w K aD esD nD) :
    FnOk P w K mg base CX0 7 f fd ["script"] (spLaw K) := by
  have GLooks : FnOk P w K mg base CX0 1 gLooks dLooks ["one", "two"] spAlike := ok_Looks DLooks.fn mlen mrange
  have GPrice : FnOk P w K mg base CX0 2 gPrice dPrice ["elder", "done", "step", "prices"] (spPrice K) := ok_price DPrice.fn DLooks GLooks mLIKE mPP PL
  have GWays : FnOk P w K mg base CX0 2 gWays dWays ["elder", "copy", "i", "j"] (spWays K) := ok_ways DWays.fn DSwW DSkL mlen mrange
  have GPtab : FnOk P w K mg base CX0 4 gPtab dPtab ["elder", "copy", "prices"] (spPtab K) := (ok_ptab DPtab.fn DEmp DTld DWays GWays DPrice GPrice mlen mrange mtup).mono (by decide)
  have GRtab : FnOk P w K mg base CX0 3 gRtab dRtab ["elder", "copy", "prices"] (spRtab K) := ok_rtab DRtab.fn DEmp DTld DWays GWays DPrice GPrice mlen mrange mtup mmin
  have GCW : FnOk P w K mg base CX0 3 gCW dCW ["elder", "copy", "prices", "rest", "i", "j"] (spCW K) := ok_cw DCW.fn DWays GWays DPrice GPrice
  have GFC : FnOk P w K mg base CX0 4 gFC dFC ["elder", "copy", "prices"] (spFC K) := ok_fc DFC.fn DRtab GRtab DCW GCW mlen mtup
  have GLs : FnOk P w K mg base CX0 5 gLs dLs ["elder", "copy", "prices"] (spLs K) := ok_ls DLs.fn DPtab GPtab DFC GFC
  have GCell : FnOk P w K mg base CX0 6 gCell dCell ["script", "k"] (spCell K) := (ok_cell DCell.fn mlen).mono (by decide)
  have GLAlk : FnOk P w K mg base CX0 1 gLAlk dLAlk ["one", "two"] spAlike := ok_lalk DLAlk.fn mlen mrange
  have GLPrice : FnOk P w K mg base CX0 2 gLPrice dLPrice ["elder", "i", "step", "prices"] (spPrice K) := ok_lprice DLPrice.fn DLAlk GLAlk mint
  have GMade : FnOk P w K mg base CX0 5 gMade dMade ["elder", "steps", "prices"] (spMade K) := (ok_made DMade.fn DDoes DLPrice GLPrice mlen).mono (by decide)
  have GPrices : FnOk P w K mg base CX0 6 gPrices dPrices ["cell"] spPrices := (ok_prices DPrices.fn DStir DNext mrange mtup).mono (by decide)
  have GPair : FnOk P w K mg base CX0 3 gPair dPair ["cells", "seed", "most"] (spPair K) := ok_pair DPair.fn DStir DEye DWord DSlip mlen mrange mmax mmin mtup
  have GMP : FnOk P w K mg base CX0 6 gMP dMP ["script", "many"] (spMP K) := (ok_mp DMP.fn DCell DStir DNext DPair GPair mlen mrange).mono (by decide)
  have GFormed : FnOk P w K mg base CX0 5 gFormed dFormed ["table", "tall", "wide"] (spFormed K) := (ok_formed DFormed.fn mlen misi mtup mint mbool mall i6).mono (by decide)
  have GIs : FnOk P w K mg base CX0 5 gIs dIs ["step"] spIs := (ok_is DIs.fn mlen misi mtup mstr mint mbool i6).mono (by decide)
  have GLWk : FnOk P w K mg base CX0 5 gLWk dLWk ["elder", "copy", "steps", "prices", "table"] (spLWk K) := (ok_lwk DLWk.fn DDoes DLPrice GLPrice mlen).mono (by decide)
  have GTW : FnOk P w K mg base CX0 6 gTW dTW ["pair", "prices"] (spTW K) := ok_tw DTW.fn DLs GLs DFormed GFormed DIs GIs DMade GMade DLWk GLWk mlen misi mtup mint mbool mall i6
  exact ok_law F DCell GCell DPrices GPrices DMP GMP DTW GTW DLs (GLs.mono (by decide)) mtup
end
theorem all_mk {l : PySem.W.OpenLaw} {w : World} {K : PySem.W.Frag} {h : Heap} {mg : Str → Option Value} {fa fLooks fPrice fSwW fSkL fWays fEmp fTld fPtab fRtab fCW fFC fLs fCell fStir fNext fWord fPrices fEye fSlip fPair fMP fLAlk fLPrice fFormed fDoes fMade fLWk fIs fTW fLaw : Addr} (X : K.In h) (G : h.Ns mainGlobals mg) (hfa : mg "law" = some (.ref fa))
    {odLooks anLooks odPrice anPrice odSwW anSwW odSkL anSkL odWays anWays odEmp anEmp odTld anTld odPtab anPtab odRtab anRtab odCW anCW odFC anFC odLs anLs odCell anCell odStir anStir odNext anNext odWord anWord odPrices anPrices odEye anEye odSlip anSlip odPair anPair odMP anMP odLAlk anLAlk odLPrice anLPrice odFormed anFormed odDoes anDoes odMade anMade odLWk anLWk odIs anIs odTW anTW odLaw anLaw : Option Addr} {slLooks slPrice slSwW slSkL slWays slEmp slTld slPtab slRtab slCW slFC slLs slCell slStir slNext slWord slPrices slEye slSlip slPair slMP slLAlk slLPrice slFormed slDoes slMade slLWk slIs slTW slLaw : Array (Option Value)} {ocLooks kVLooks dcLooks pmLooks cdLooks ctLooks ocPrice kVPrice dcPrice pmPrice cdPrice ctPrice ocSwW kVSwW dcSwW pmSwW cdSwW ctSwW ocSkL kVSkL dcSkL pmSkL cdSkL ctSkL ocWays kVWays dcWays pmWays cdWays ctWays ocEmp kVEmp dcEmp pmEmp cdEmp ctEmp ocTld kVTld dcTld pmTld cdTld ctTld ocPtab kVPtab dcPtab pmPtab cdPtab ctPtab ocRtab kVRtab dcRtab pmRtab cdRtab ctRtab ocCW kVCW dcCW pmCW cdCW ctCW ocFC kVFC dcFC pmFC cdFC ctFC ocLs kVLs dcLs pmLs cdLs ctLs ocCell kVCell dcCell pmCell cdCell ctCell ocStir kVStir dcStir pmStir cdStir ctStir ocNext kVNext dcNext pmNext cdNext ctNext ocWord kVWord dcWord pmWord cdWord ctWord ocPrices kVPrices dcPrices pmPrices cdPrices ctPrices ocEye kVEye dcEye pmEye cdEye ctEye ocSlip kVSlip dcSlip pmSlip cdSlip ctSlip ocPair kVPair dcPair pmPair cdPair ctPair ocMP kVMP dcMP pmMP cdMP ctMP ocLAlk kVLAlk dcLAlk pmLAlk cdLAlk ctLAlk ocLPrice kVLPrice dcLPrice pmLPrice cdLPrice ctLPrice ocFormed kVFormed dcFormed pmFormed cdFormed ctFormed ocDoes kVDoes dcDoes pmDoes cdDoes ctDoes ocMade kVMade dcMade pmMade cdMade ctMade ocLWk kVLWk dcLWk pmLWk cdLWk ctLWk ocIs kVIs dcIs pmIs cdIs ctIs ocTW kVTW dcTW pmTW cdTW ctTW ocLaw kVLaw dcLaw pmLaw cdLaw ctLaw : Value} {tkLIKE : Tok}
    {aD : Addr} {esD : Array DictEntry} {nD : Nat} {q1 q2 q3 q4 q5 q6 : Tok}
    (aLooks : PySem.W.nsIn K mainGlobals "looks_alike" = some (some (.ref fLooks))) (lLooks : K.lookup fLooks = some ⟨ocLooks, odLooks, .func (PySem.W.fnOf "looks_alike" "looks_alike" (defArgs sLooks) (defBody sLooks) (defScope sLooks) .none kVLooks dcLooks pmLooks anLooks cdLooks ctLooks), slLooks⟩) (cLooks : PySem.W.codeIn K cdLooks "looks_alike" = true) (kLooks : PySem.W.keepIn K (.ref fLooks) = true)
    (aPrice : PySem.W.nsIn K mainGlobals "step_price" = some (some (.ref fPrice))) (lPrice : K.lookup fPrice = some ⟨ocPrice, odPrice, .func (PySem.W.fnOf "step_price" "step_price" (defArgs sPrice) (defBody sPrice) (defScope sPrice) .none kVPrice dcPrice pmPrice anPrice cdPrice ctPrice), slPrice⟩) (cPrice : PySem.W.codeIn K cdPrice "step_price" = true) (kPrice : PySem.W.keepIn K (.ref fPrice) = true)
    (aSwW : PySem.W.nsIn K mainGlobals "swap_writes" = some (some (.ref fSwW))) (lSwW : K.lookup fSwW = some ⟨ocSwW, odSwW, .func (PySem.W.fnOf "swap_writes" "swap_writes" (defArgs sSwW) (defBody sSwW) (defScope sSwW) .none kVSwW dcSwW pmSwW anSwW cdSwW ctSwW), slSwW⟩) (cSwW : PySem.W.codeIn K cdSwW "swap_writes" = true) (kSwW : PySem.W.keepIn K (.ref fSwW) = true)
    (aSkL : PySem.W.nsIn K mainGlobals "skip_lengths" = some (some (.ref fSkL))) (lSkL : K.lookup fSkL = some ⟨ocSkL, odSkL, .func (PySem.W.fnOf "skip_lengths" "skip_lengths" (defArgs sSkL) (defBody sSkL) (defScope sSkL) .none kVSkL dcSkL pmSkL anSkL cdSkL ctSkL), slSkL⟩) (cSkL : PySem.W.codeIn K cdSkL "skip_lengths" = true) (kSkL : PySem.W.keepIn K (.ref fSkL) = true)
    (aWays : PySem.W.nsIn K mainGlobals "knot_ways" = some (some (.ref fWays))) (lWays : K.lookup fWays = some ⟨ocWays, odWays, .func (PySem.W.fnOf "knot_ways" "knot_ways" (defArgs sWays) (defBody sWays) (defScope sWays) .none kVWays dcWays pmWays anWays cdWays ctWays), slWays⟩) (cWays : PySem.W.codeIn K cdWays "knot_ways" = true) (kWays : PySem.W.keepIn K (.ref fWays) = true)
    (aEmp : PySem.W.nsIn K mainGlobals "empty_table" = some (some (.ref fEmp))) (lEmp : K.lookup fEmp = some ⟨ocEmp, odEmp, .func (PySem.W.fnOf "empty_table" "empty_table" (defArgs sEmp) (defBody sEmp) (defScope sEmp) .none kVEmp dcEmp pmEmp anEmp cdEmp ctEmp), slEmp⟩) (cEmp : PySem.W.codeIn K cdEmp "empty_table" = true) (kEmp : PySem.W.keepIn K (.ref fEmp) = true)
    (aTld : PySem.W.nsIn K mainGlobals "table_told" = some (some (.ref fTld))) (lTld : K.lookup fTld = some ⟨ocTld, odTld, .func (PySem.W.fnOf "table_told" "table_told" (defArgs sTld) (defBody sTld) (defScope sTld) .none kVTld dcTld pmTld anTld cdTld ctTld), slTld⟩) (cTld : PySem.W.codeIn K cdTld "table_told" = true) (kTld : PySem.W.keepIn K (.ref fTld) = true)
    (aPtab : PySem.W.nsIn K mainGlobals "price_table" = some (some (.ref fPtab))) (lPtab : K.lookup fPtab = some ⟨ocPtab, odPtab, .func (PySem.W.fnOf "price_table" "price_table" (defArgs sPtab) (defBody sPtab) (defScope sPtab) .none kVPtab dcPtab pmPtab anPtab cdPtab ctPtab), slPtab⟩) (cPtab : PySem.W.codeIn K cdPtab "price_table" = true) (kPtab : PySem.W.keepIn K (.ref fPtab) = true)
    (aRtab : PySem.W.nsIn K mainGlobals "rest_table" = some (some (.ref fRtab))) (lRtab : K.lookup fRtab = some ⟨ocRtab, odRtab, .func (PySem.W.fnOf "rest_table" "rest_table" (defArgs sRtab) (defBody sRtab) (defScope sRtab) .none kVRtab dcRtab pmRtab anRtab cdRtab ctRtab), slRtab⟩) (cRtab : PySem.W.codeIn K cdRtab "rest_table" = true) (kRtab : PySem.W.keepIn K (.ref fRtab) = true)
    (aCW : PySem.W.nsIn K mainGlobals "cheapest_ways" = some (some (.ref fCW))) (lCW : K.lookup fCW = some ⟨ocCW, odCW, .func (PySem.W.fnOf "cheapest_ways" "cheapest_ways" (defArgs sCW) (defBody sCW) (defScope sCW) .none kVCW dcCW pmCW anCW cdCW ctCW), slCW⟩) (cCW : PySem.W.codeIn K cdCW "cheapest_ways" = true) (kCW : PySem.W.keepIn K (.ref fCW) = true)
    (aFC : PySem.W.nsIn K mainGlobals "first_cheapest" = some (some (.ref fFC))) (lFC : K.lookup fFC = some ⟨ocFC, odFC, .func (PySem.W.fnOf "first_cheapest" "first_cheapest" (defArgs sFC) (defBody sFC) (defScope sFC) .none kVFC dcFC pmFC anFC cdFC ctFC), slFC⟩) (cFC : PySem.W.codeIn K cdFC "first_cheapest" = true) (kFC : PySem.W.keepIn K (.ref fFC) = true)
    (aLs : PySem.W.nsIn K mainGlobals "least_slips" = some (some (.ref fLs))) (lLs : K.lookup fLs = some ⟨ocLs, odLs, .func (PySem.W.fnOf "least_slips" "least_slips" (defArgs sLs) (defBody sLs) (defScope sLs) .none kVLs dcLs pmLs anLs cdLs ctLs), slLs⟩) (cLs : PySem.W.codeIn K cdLs "least_slips" = true) (kLs : PySem.W.keepIn K (.ref fLs) = true)
    (aCell : PySem.W.nsIn K mainGlobals "_law_cell_at" = some (some (.ref fCell))) (lCell : K.lookup fCell = some ⟨ocCell, odCell, .func (PySem.W.fnOf "_law_cell_at" "_law_cell_at" (defArgs sCell) (defBody sCell) (defScope sCell) .none kVCell dcCell pmCell anCell cdCell ctCell), slCell⟩) (cCell : PySem.W.codeIn K cdCell "_law_cell_at" = true) (kCell : PySem.W.keepIn K (.ref fCell) = true)
    (aStir : PySem.W.nsIn K mainGlobals "_law_stir" = some (some (.ref fStir))) (lStir : K.lookup fStir = some ⟨ocStir, odStir, .func (PySem.W.fnOf "_law_stir" "_law_stir" (defArgs sStir) (defBody sStir) (defScope sStir) .none kVStir dcStir pmStir anStir cdStir ctStir), slStir⟩) (cStir : PySem.W.codeIn K cdStir "_law_stir" = true) (kStir : PySem.W.keepIn K (.ref fStir) = true)
    (aNext : PySem.W.nsIn K mainGlobals "_law_next" = some (some (.ref fNext))) (lNext : K.lookup fNext = some ⟨ocNext, odNext, .func (PySem.W.fnOf "_law_next" "_law_next" (defArgs sNext) (defBody sNext) (defScope sNext) .none kVNext dcNext pmNext anNext cdNext ctNext), slNext⟩) (cNext : PySem.W.codeIn K cdNext "_law_next" = true) (kNext : PySem.W.keepIn K (.ref fNext) = true)
    (aWord : PySem.W.nsIn K mainGlobals "_law_word" = some (some (.ref fWord))) (lWord : K.lookup fWord = some ⟨ocWord, odWord, .func (PySem.W.fnOf "_law_word" "_law_word" (defArgs sWord) (defBody sWord) (defScope sWord) .none kVWord dcWord pmWord anWord cdWord ctWord), slWord⟩) (cWord : PySem.W.codeIn K cdWord "_law_word" = true) (kWord : PySem.W.keepIn K (.ref fWord) = true)
    (aPrices : PySem.W.nsIn K mainGlobals "_law_prices" = some (some (.ref fPrices))) (lPrices : K.lookup fPrices = some ⟨ocPrices, odPrices, .func (PySem.W.fnOf "_law_prices" "_law_prices" (defArgs sPrices) (defBody sPrices) (defScope sPrices) .none kVPrices dcPrices pmPrices anPrices cdPrices ctPrices), slPrices⟩) (cPrices : PySem.W.codeIn K cdPrices "_law_prices" = true) (kPrices : PySem.W.keepIn K (.ref fPrices) = true)
    (aEye : PySem.W.nsIn K mainGlobals "_law_eye" = some (some (.ref fEye))) (lEye : K.lookup fEye = some ⟨ocEye, odEye, .func (PySem.W.fnOf "_law_eye" "_law_eye" (defArgs sEye) (defBody sEye) (defScope sEye) .none kVEye dcEye pmEye anEye cdEye ctEye), slEye⟩) (cEye : PySem.W.codeIn K cdEye "_law_eye" = true) (kEye : PySem.W.keepIn K (.ref fEye) = true)
    (aSlip : PySem.W.nsIn K mainGlobals "_law_slip" = some (some (.ref fSlip))) (lSlip : K.lookup fSlip = some ⟨ocSlip, odSlip, .func (PySem.W.fnOf "_law_slip" "_law_slip" (defArgs sSlip) (defBody sSlip) (defScope sSlip) .none kVSlip dcSlip pmSlip anSlip cdSlip ctSlip), slSlip⟩) (cSlip : PySem.W.codeIn K cdSlip "_law_slip" = true) (kSlip : PySem.W.keepIn K (.ref fSlip) = true)
    (aPair : PySem.W.nsIn K mainGlobals "_law_pair" = some (some (.ref fPair))) (lPair : K.lookup fPair = some ⟨ocPair, odPair, .func (PySem.W.fnOf "_law_pair" "_law_pair" (defArgs sPair) (defBody sPair) (defScope sPair) .none kVPair dcPair pmPair anPair cdPair ctPair), slPair⟩) (cPair : PySem.W.codeIn K cdPair "_law_pair" = true) (kPair : PySem.W.keepIn K (.ref fPair) = true)
    (aMP : PySem.W.nsIn K mainGlobals "_law_made_pairs" = some (some (.ref fMP))) (lMP : K.lookup fMP = some ⟨ocMP, odMP, .func (PySem.W.fnOf "_law_made_pairs" "_law_made_pairs" (defArgs sMP) (defBody sMP) (defScope sMP) .none kVMP dcMP pmMP anMP cdMP ctMP), slMP⟩) (cMP : PySem.W.codeIn K cdMP "_law_made_pairs" = true) (kMP : PySem.W.keepIn K (.ref fMP) = true)
    (aLAlk : PySem.W.nsIn K mainGlobals "_law_alike" = some (some (.ref fLAlk))) (lLAlk : K.lookup fLAlk = some ⟨ocLAlk, odLAlk, .func (PySem.W.fnOf "_law_alike" "_law_alike" (defArgs sLAlk) (defBody sLAlk) (defScope sLAlk) .none kVLAlk dcLAlk pmLAlk anLAlk cdLAlk ctLAlk), slLAlk⟩) (cLAlk : PySem.W.codeIn K cdLAlk "_law_alike" = true) (kLAlk : PySem.W.keepIn K (.ref fLAlk) = true)
    (aLPrice : PySem.W.nsIn K mainGlobals "_law_price" = some (some (.ref fLPrice))) (lLPrice : K.lookup fLPrice = some ⟨ocLPrice, odLPrice, .func (PySem.W.fnOf "_law_price" "_law_price" (defArgs sLPrice) (defBody sLPrice) (defScope sLPrice) .none kVLPrice dcLPrice pmLPrice anLPrice cdLPrice ctLPrice), slLPrice⟩) (cLPrice : PySem.W.codeIn K cdLPrice "_law_price" = true) (kLPrice : PySem.W.keepIn K (.ref fLPrice) = true)
    (aFormed : PySem.W.nsIn K mainGlobals "_law_formed" = some (some (.ref fFormed))) (lFormed : K.lookup fFormed = some ⟨ocFormed, odFormed, .func (PySem.W.fnOf "_law_formed" "_law_formed" (defArgs sFormed) (defBody sFormed) (defScope sFormed) .none kVFormed dcFormed pmFormed anFormed cdFormed ctFormed), slFormed⟩) (cFormed : PySem.W.codeIn K cdFormed "_law_formed" = true) (kFormed : PySem.W.keepIn K (.ref fFormed) = true)
    (aDoes : PySem.W.nsIn K mainGlobals "_law_does" = some (some (.ref fDoes))) (lDoes : K.lookup fDoes = some ⟨ocDoes, odDoes, .func (PySem.W.fnOf "_law_does" "_law_does" (defArgs sDoes) (defBody sDoes) (defScope sDoes) .none kVDoes dcDoes pmDoes anDoes cdDoes ctDoes), slDoes⟩) (cDoes : PySem.W.codeIn K cdDoes "_law_does" = true) (kDoes : PySem.W.keepIn K (.ref fDoes) = true)
    (aMade : PySem.W.nsIn K mainGlobals "_law_made" = some (some (.ref fMade))) (lMade : K.lookup fMade = some ⟨ocMade, odMade, .func (PySem.W.fnOf "_law_made" "_law_made" (defArgs sMade) (defBody sMade) (defScope sMade) .none kVMade dcMade pmMade anMade cdMade ctMade), slMade⟩) (cMade : PySem.W.codeIn K cdMade "_law_made" = true) (kMade : PySem.W.keepIn K (.ref fMade) = true)
    (aLWk : PySem.W.nsIn K mainGlobals "_law_walked" = some (some (.ref fLWk))) (lLWk : K.lookup fLWk = some ⟨ocLWk, odLWk, .func (PySem.W.fnOf "_law_walked" "_law_walked" (defArgs sLWk) (defBody sLWk) (defScope sLWk) .none kVLWk dcLWk pmLWk anLWk cdLWk ctLWk), slLWk⟩) (cLWk : PySem.W.codeIn K cdLWk "_law_walked" = true) (kLWk : PySem.W.keepIn K (.ref fLWk) = true)
    (aIs : PySem.W.nsIn K mainGlobals "_law_is_step" = some (some (.ref fIs))) (lIs : K.lookup fIs = some ⟨ocIs, odIs, .func (PySem.W.fnOf "_law_is_step" "_law_is_step" (defArgs sIs) (defBody sIs) (defScope sIs) .none kVIs dcIs pmIs anIs cdIs ctIs), slIs⟩) (cIs : PySem.W.codeIn K cdIs "_law_is_step" = true) (kIs : PySem.W.keepIn K (.ref fIs) = true)
    (aTW : PySem.W.nsIn K mainGlobals "_law_told_well" = some (some (.ref fTW))) (lTW : K.lookup fTW = some ⟨ocTW, odTW, .func (PySem.W.fnOf "_law_told_well" "_law_told_well" (defArgs sTW) (defBody sTW) (defScope sTW) .none kVTW dcTW pmTW anTW cdTW ctTW), slTW⟩) (cTW : PySem.W.codeIn K cdTW "_law_told_well" = true) (kTW : PySem.W.keepIn K (.ref fTW) = true)
    (aLaw : PySem.W.nsIn K mainGlobals "law" = some (some (.ref fLaw))) (lLaw : K.lookup fLaw = some ⟨ocLaw, odLaw, .func (PySem.W.fnOf "law" "law" (defArgs sLaw) (defBody sLaw) (defScope sLaw) .none kVLaw dcLaw pmLaw anLaw cdLaw ctLaw), slLaw⟩) (cLaw : PySem.W.codeIn K cdLaw "law" = true) (kLaw : PySem.W.keepIn K (.ref fLaw) = true)
    (gLIKE : PySem.W.nsIn K mainGlobals "LIKE" = some (some (.int 0 tkLIKE)))
    (gPRICE_PLACES : PySem.W.nsIn K mainGlobals "PRICE_PLACES" = some (some (.ref aD)))
    (blen : PySem.W.nsIn K mainGlobals "len" = some none)
    (brange : PySem.W.nsIn K mainGlobals "range" = some none)
    (bisinstance : PySem.W.nsIn K mainGlobals "isinstance" = some none)
    (btuple : PySem.W.nsIn K mainGlobals "tuple" = some none)
    (bstr : PySem.W.nsIn K mainGlobals "str" = some none)
    (bint : PySem.W.nsIn K mainGlobals "int" = some none)
    (bbool : PySem.W.nsIn K mainGlobals "bool" = some none)
    (bmax : PySem.W.nsIn K mainGlobals "max" = some none)
    (bmin : PySem.W.nsIn K mainGlobals "min" = some none)
    (ball : PySem.W.nsIn K mainGlobals "all" = some none)
    (i6 : PySem.W.kitOne K (.type "int") (.type "bool") = some false)
    (dl : K.lookup aD = some ⟨.type "dict", none, .dict esD nD, #[]⟩)
    (dk : PySem.W.KeysLit w.params esD.toList)
    (d1 : PySem.W.nsIn K aD "turn" = some (some (.int 1 q1)))
    (d2 : PySem.W.nsIn K aD "lose" = some (some (.int 2 q2)))
    (d3 : PySem.W.nsIn K aD "add" = some (some (.int 3 q3)))
    (d4 : PySem.W.nsIn K aD "twice" = some (some (.int 4 q4)))
    (d5 : PySem.W.nsIn K aD "swap" = some (some (.int 5 q5)))
    (d6 : PySem.W.nsIn K aD "skip" = some (some (.int 6 q6)))
    : ∃ fd : FuncData, (∀ (s : Shared) (v : Value), BindsTo s fd ⟨[v], []⟩ [("script", v)]) ∧ ∀ base : Heap, K.In base → base.Ns mainGlobals mg → FnOk l.prog w K mg base CX0 7 fa fd ["script"] (spLaw K) := by
  have e := hfa.symm.trans (PySem.W.mg_of X G aLaw)
  cases e
  have FLooks := fun_mk (st := sLooks) lLooks cLooks kLooks
  have b_Looks := FLooks.binds (ps := ["one", "two"]) fun _ _ _ _ _ _ us hl => match us, hl with | [_, _], _ => rfl
  have DLooks : Dfn K mg "looks_alike" sLooks fLooks _ ["one", "two"] := ⟨FLooks, PySem.W.mg_of X G aLooks, b_Looks⟩
  have FPrice := fun_mk (st := sPrice) lPrice cPrice kPrice
  have b_Price := FPrice.binds (ps := ["elder", "done", "step", "prices"]) fun _ _ _ _ _ _ us hl => match us, hl with | [_, _, _, _], _ => rfl
  have DPrice : Dfn K mg "step_price" sPrice fPrice _ ["elder", "done", "step", "prices"] := ⟨FPrice, PySem.W.mg_of X G aPrice, b_Price⟩
  have FSwW := fun_mk (st := sSwW) lSwW cSwW kSwW
  have b_SwW := FSwW.binds (ps := ["elder", "copy", "i", "j"]) fun _ _ _ _ _ _ us hl => match us, hl with | [_, _, _, _], _ => rfl
  have DSwW : Dfn K mg "swap_writes" sSwW fSwW _ ["elder", "copy", "i", "j"] := ⟨FSwW, PySem.W.mg_of X G aSwW, b_SwW⟩
  have FSkL := fun_mk (st := sSkL) lSkL cSkL kSkL
  have b_SkL := FSkL.binds (ps := ["elder", "i"]) fun _ _ _ _ _ _ us hl => match us, hl with | [_, _], _ => rfl
  have DSkL : Dfn K mg "skip_lengths" sSkL fSkL _ ["elder", "i"] := ⟨FSkL, PySem.W.mg_of X G aSkL, b_SkL⟩
  have FWays := fun_mk (st := sWays) lWays cWays kWays
  have b_Ways := FWays.binds (ps := ["elder", "copy", "i", "j"]) fun _ _ _ _ _ _ us hl => match us, hl with | [_, _, _, _], _ => rfl
  have DWays : Dfn K mg "knot_ways" sWays fWays _ ["elder", "copy", "i", "j"] := ⟨FWays, PySem.W.mg_of X G aWays, b_Ways⟩
  have FEmp := fun_mk (st := sEmp) lEmp cEmp kEmp
  have b_Emp := FEmp.binds (ps := ["elder", "copy"]) fun _ _ _ _ _ _ us hl => match us, hl with | [_, _], _ => rfl
  have DEmp : Dfn K mg "empty_table" sEmp fEmp _ ["elder", "copy"] := ⟨FEmp, PySem.W.mg_of X G aEmp, b_Emp⟩
  have FTld := fun_mk (st := sTld) lTld cTld kTld
  have b_Tld := FTld.binds (ps := ["table"]) fun _ _ _ _ _ _ us hl => match us, hl with | [_], _ => rfl
  have DTld : Dfn K mg "table_told" sTld fTld _ ["table"] := ⟨FTld, PySem.W.mg_of X G aTld, b_Tld⟩
  have FPtab := fun_mk (st := sPtab) lPtab cPtab kPtab
  have b_Ptab := FPtab.binds (ps := ["elder", "copy", "prices"]) fun _ _ _ _ _ _ us hl => match us, hl with | [_, _, _], _ => rfl
  have DPtab : Dfn K mg "price_table" sPtab fPtab _ ["elder", "copy", "prices"] := ⟨FPtab, PySem.W.mg_of X G aPtab, b_Ptab⟩
  have FRtab := fun_mk (st := sRtab) lRtab cRtab kRtab
  have b_Rtab := FRtab.binds (ps := ["elder", "copy", "prices"]) fun _ _ _ _ _ _ us hl => match us, hl with | [_, _, _], _ => rfl
  have DRtab : Dfn K mg "rest_table" sRtab fRtab _ ["elder", "copy", "prices"] := ⟨FRtab, PySem.W.mg_of X G aRtab, b_Rtab⟩
  have FCW := fun_mk (st := sCW) lCW cCW kCW
  have b_CW := FCW.binds (ps := ["elder", "copy", "prices", "rest", "i", "j"]) fun _ _ _ _ _ _ us hl => match us, hl with | [_, _, _, _, _, _], _ => rfl
  have DCW : Dfn K mg "cheapest_ways" sCW fCW _ ["elder", "copy", "prices", "rest", "i", "j"] := ⟨FCW, PySem.W.mg_of X G aCW, b_CW⟩
  have FFC := fun_mk (st := sFC) lFC cFC kFC
  have b_FC := FFC.binds (ps := ["elder", "copy", "prices"]) fun _ _ _ _ _ _ us hl => match us, hl with | [_, _, _], _ => rfl
  have DFC : Dfn K mg "first_cheapest" sFC fFC _ ["elder", "copy", "prices"] := ⟨FFC, PySem.W.mg_of X G aFC, b_FC⟩
  have FLs := fun_mk (st := sLs) lLs cLs kLs
  have b_Ls := FLs.binds (ps := ["elder", "copy", "prices"]) fun _ _ _ _ _ _ us hl => match us, hl with | [_, _, _], _ => rfl
  have DLs : Dfn K mg "least_slips" sLs fLs _ ["elder", "copy", "prices"] := ⟨FLs, PySem.W.mg_of X G aLs, b_Ls⟩
  have FCell := fun_mk (st := sCell) lCell cCell kCell
  have b_Cell := FCell.binds (ps := ["script", "k"]) fun _ _ _ _ _ _ us hl => match us, hl with | [_, _], _ => rfl
  have DCell : Dfn K mg "_law_cell_at" sCell fCell _ ["script", "k"] := ⟨FCell, PySem.W.mg_of X G aCell, b_Cell⟩
  have FStir := fun_mk (st := sStir) lStir cStir kStir
  have b_Stir := FStir.binds (ps := ["cell"]) fun _ _ _ _ _ _ us hl => match us, hl with | [_], _ => rfl
  have DStir : Dfn K mg "_law_stir" sStir fStir _ ["cell"] := ⟨FStir, PySem.W.mg_of X G aStir, b_Stir⟩
  have FNext := fun_mk (st := sNext) lNext cNext kNext
  have b_Next := FNext.binds (ps := ["left"]) fun _ _ _ _ _ _ us hl => match us, hl with | [_], _ => rfl
  have DNext : Dfn K mg "_law_next" sNext fNext _ ["left"] := ⟨FNext, PySem.W.mg_of X G aNext, b_Next⟩
  have FWord := fun_mk (st := sWord) lWord cWord kWord
  have b_Word := FWord.binds (ps := ["seed", "code"]) fun _ _ _ _ _ _ us hl => match us, hl with | [_, _], _ => rfl
  have DWord : Dfn K mg "_law_word" sWord fWord _ ["seed", "code"] := ⟨FWord, PySem.W.mg_of X G aWord, b_Word⟩
  have FPrices := fun_mk (st := sPrices) lPrices cPrices kPrices
  have b_Prices := FPrices.binds (ps := ["cell"]) fun _ _ _ _ _ _ us hl => match us, hl with | [_], _ => rfl
  have DPrices : Dfn K mg "_law_prices" sPrices fPrices _ ["cell"] := ⟨FPrices, PySem.W.mg_of X G aPrices, b_Prices⟩
  have FEye := fun_mk (st := sEye) lEye cEye kEye
  have b_Eye := FEye.binds (ps := ["elder", "left", "seed", "most"]) fun _ _ _ _ _ _ us hl => match us, hl with | [_, _, _, _], _ => rfl
  have DEye : Dfn K mg "_law_eye" sEye fEye _ ["elder", "left", "seed", "most"] := ⟨FEye, PySem.W.mg_of X G aEye, b_Eye⟩
  have FSlip := fun_mk (st := sSlip) lSlip cSlip kSlip
  have b_Slip := FSlip.binds (ps := ["elder", "copy", "steps", "left", "words"]) fun _ _ _ _ _ _ us hl => match us, hl with | [_, _, _, _, _], _ => rfl
  have DSlip : Dfn K mg "_law_slip" sSlip fSlip _ ["elder", "copy", "steps", "left", "words"] := ⟨FSlip, PySem.W.mg_of X G aSlip, b_Slip⟩
  have FPair := fun_mk (st := sPair) lPair cPair kPair
  have b_Pair := FPair.binds (ps := ["cells", "seed", "most"]) fun _ _ _ _ _ _ us hl => match us, hl with | [_, _, _], _ => rfl
  have DPair : Dfn K mg "_law_pair" sPair fPair _ ["cells", "seed", "most"] := ⟨FPair, PySem.W.mg_of X G aPair, b_Pair⟩
  have FMP := fun_mk (st := sMP) lMP cMP kMP
  have b_MP := FMP.binds (ps := ["script", "many"]) fun _ _ _ _ _ _ us hl => match us, hl with | [_, _], _ => rfl
  have DMP : Dfn K mg "_law_made_pairs" sMP fMP _ ["script", "many"] := ⟨FMP, PySem.W.mg_of X G aMP, b_MP⟩
  have FLAlk := fun_mk (st := sLAlk) lLAlk cLAlk kLAlk
  have b_LAlk := FLAlk.binds (ps := ["one", "two"]) fun _ _ _ _ _ _ us hl => match us, hl with | [_, _], _ => rfl
  have DLAlk : Dfn K mg "_law_alike" sLAlk fLAlk _ ["one", "two"] := ⟨FLAlk, PySem.W.mg_of X G aLAlk, b_LAlk⟩
  have FLPrice := fun_mk (st := sLPrice) lLPrice cLPrice kLPrice
  have b_LPrice := FLPrice.binds (ps := ["elder", "i", "step", "prices"]) fun _ _ _ _ _ _ us hl => match us, hl with | [_, _, _, _], _ => rfl
  have DLPrice : Dfn K mg "_law_price" sLPrice fLPrice _ ["elder", "i", "step", "prices"] := ⟨FLPrice, PySem.W.mg_of X G aLPrice, b_LPrice⟩
  have FFormed := fun_mk (st := sFormed) lFormed cFormed kFormed
  have b_Formed := FFormed.binds (ps := ["table", "tall", "wide"]) fun _ _ _ _ _ _ us hl => match us, hl with | [_, _, _], _ => rfl
  have DFormed : Dfn K mg "_law_formed" sFormed fFormed _ ["table", "tall", "wide"] := ⟨FFormed, PySem.W.mg_of X G aFormed, b_Formed⟩
  have FDoes := fun_mk (st := sDoes) lDoes cDoes kDoes
  have b_Does := FDoes.binds (ps := ["elder", "done", "copy", "step"]) fun _ _ _ _ _ _ us hl => match us, hl with | [_, _, _, _], _ => rfl
  have DDoes : Dfn K mg "_law_does" sDoes fDoes _ ["elder", "done", "copy", "step"] := ⟨FDoes, PySem.W.mg_of X G aDoes, b_Does⟩
  have FMade := fun_mk (st := sMade) lMade cMade kMade
  have b_Made := FMade.binds (ps := ["elder", "steps", "prices"]) fun _ _ _ _ _ _ us hl => match us, hl with | [_, _, _], _ => rfl
  have DMade : Dfn K mg "_law_made" sMade fMade _ ["elder", "steps", "prices"] := ⟨FMade, PySem.W.mg_of X G aMade, b_Made⟩
  have FLWk := fun_mk (st := sLWk) lLWk cLWk kLWk
  have b_LWk := FLWk.binds (ps := ["elder", "copy", "steps", "prices", "table"]) fun _ _ _ _ _ _ us hl => match us, hl with | [_, _, _, _, _], _ => rfl
  have DLWk : Dfn K mg "_law_walked" sLWk fLWk _ ["elder", "copy", "steps", "prices", "table"] := ⟨FLWk, PySem.W.mg_of X G aLWk, b_LWk⟩
  have FIs := fun_mk (st := sIs) lIs cIs kIs
  have b_Is := FIs.binds (ps := ["step"]) fun _ _ _ _ _ _ us hl => match us, hl with | [_], _ => rfl
  have DIs : Dfn K mg "_law_is_step" sIs fIs _ ["step"] := ⟨FIs, PySem.W.mg_of X G aIs, b_Is⟩
  have FTW := fun_mk (st := sTW) lTW cTW kTW
  have b_TW := FTW.binds (ps := ["pair", "prices"]) fun _ _ _ _ _ _ us hl => match us, hl with | [_, _], _ => rfl
  have DTW : Dfn K mg "_law_told_well" sTW fTW _ ["pair", "prices"] := ⟨FTW, PySem.W.mg_of X G aTW, b_TW⟩
  have FLaw := fun_mk (st := sLaw) lLaw cLaw kLaw
  have mLIKE := PySem.W.mg_of X G gLIKE
  have mPRICE_PLACES := PySem.W.mg_of X G gPRICE_PLACES
  have mlen := PySem.W.mg_none_of X G blen
  have mrange := PySem.W.mg_none_of X G brange
  have misinstance := PySem.W.mg_none_of X G bisinstance
  have mtuple := PySem.W.mg_none_of X G btuple
  have mstr := PySem.W.mg_none_of X G bstr
  have mint := PySem.W.mg_none_of X G bint
  have mbool := PySem.W.mg_none_of X G bbool
  have mmax := PySem.W.mg_none_of X G bmax
  have mmin := PySem.W.mg_none_of X G bmin
  have mall := PySem.W.mg_none_of X G ball
  exact ⟨PySem.W.fnOf "law" "law" (defArgs sLaw) (defBody sLaw) (defScope sLaw) .none kVLaw dcLaw pmLaw anLaw cdLaw ctLaw, fun s v => .of_eq rfl, fun base _ _ => ok_all FLaw DLooks DPrice DSwW DSkL DWays DEmp DTld DPtab DRtab DCW DFC DLs DCell DStir DNext DWord DPrices DEye DSlip DPair DMP DLAlk DLPrice DFormed DDoes DMade DLWk DIs DTW mlen mrange misinstance mtuple mstr mint mbool mmax mmin mall mLIKE mPRICE_PLACES i6 ⟨dl, dk, ⟨_, d1⟩, ⟨_, d2⟩, ⟨_, d3⟩, ⟨_, d4⟩, ⟨_, d5⟩, ⟨_, d6⟩⟩⟩
theorem walk {l : PySem.W.OpenLaw} {q : Program} {loose : List Str} {XP : (Str → Option Value) → Heap → Prop} {YP : World → Heap → Prop} {d : DefRec} {K : Params → PySem.W.Frag} (hn : l.most = some 63) (hdf : d.params.defaults = [])
    (hY : ∀ (w : World) (h : Heap), YP w h → (K w.params).In h)
    (F : ∀ (w : World) (mg : Str → Option Value) (fa : Addr) (h : Heap), (K w.params).In h → h.Ns mainGlobals mg → mg d.name = some (.ref fa) →
      ∃ fd : FuncData, (∀ (s : Shared) (u : Value), BindsTo s fd ⟨[u], []⟩ [("script", u)]) ∧ ∀ base : Heap, (K w.params).In base → base.Ns mainGlobals mg → FnOk l.prog w (K w.params) mg base CX0 7 fa fd ["script"] (spLaw (K w.params))) :
    PySem.W.WalkO q loose XP YP l.row.toRowW d [] (fun f vs => PySem.call f vs) :=
  L3.walk_ofB (n := 63) (k := 7) (x := "script") (CX := fun _ => CX0) (sp := fun w => spLaw (K w.params)) hn (by decide) hdf ⟨rfl, by decide, by decide⟩ hY F (fun _ _ a ns hl hb _ hS => ⟨a, ns, rfl, hS, hl, hb, fun _ => rfl⟩) fun _ _ _ _ _ z => z
noncomputable abbrev en (P : Params) (z : Str) (t : Nat) (v : Value) : DictEntry := ⟨PyData.keyHash P z, .str z t, v⟩
noncomputable abbrev fn (n : String) (s : Stmt) (m : String) (t c : Nat) : Obj := ⟨.type "function", none, .func (PySem.W.fnOf (Str.ofString n) (Str.ofString n) (defArgs s) (defBody s) (defScope s) .none .none .none (.str (Str.ofString m) t) none (.ref c) .none), #[]⟩
noncomputable abbrev co (n : String) (t u v a b c r l q y m k z : Nat) : Obj := { cls := .type "code", data := .fields #[.str (Str.ofString n) t, .str (Str.ofString n) u, .str (Str.ofString "/claim/cut.py") v, .int a 0, .int b 0, .int 0 0, .int 0 0, .int c 0, .ref r, .bool true, .int l 0, .ref q, .none, .none, .none, .ref y, .int m 0, .int k 0, .str (Str.ofString "/claim/cut.py") z] }
noncomputable def hp : Params → PySem.W.Frag := fun P =>
  (nat_lit 2, ({ cls := .none, data := .dict #[] } : Obj)) ::
  (nat_lit 3, ({ cls := .type "dict", data := .dict #[en P (Str.ofString "__name__") 165 (.str (Str.ofString "law_vellum_k20_whole_no_drawn_slips_are_chea") 329), en P (Str.ofString "__doc__") 166 (.none), en P (Str.ofString "__package__") 167 (.none), en P (Str.ofString "__loader__") 168 (.builtin "__main__.__loader__#opaque"), en P (Str.ofString "__spec__") 169 (.none), en P (Str.ofString "__annotations__") 170 (.ref 6), en P (Str.ofString "__builtins__") 171 (.ref 4), en P (Str.ofString "__file__") 173 (.str (Str.ofString "/claim/cut.py") 172), en P (Str.ofString "__cached__") 174 (.none), en P (Str.ofString "looks_alike") 194 (.ref 19), en P (Str.ofString "LIKE") 198 (.int 0 197), en P (Str.ofString "PRICE_PLACES") 217 (.ref 20), en P (Str.ofString "step_price") 228 (.ref 27), en P (Str.ofString "swap_writes") 240 (.ref 34), en P (Str.ofString "skip_lengths") 246 (.ref 39), en P (Str.ofString "knot_ways") 252 (.ref 44), en P (Str.ofString "empty_table") 258 (.ref 49), en P (Str.ofString "table_told") 264 (.ref 54), en P (Str.ofString "price_table") 280 (.ref 61), en P (Str.ofString "rest_table") 286 (.ref 66), en P (Str.ofString "cheapest_ways") 304 (.ref 73), en P (Str.ofString "first_cheapest") 318 (.ref 80), en P (Str.ofString "least_slips") 328 (.ref 87), en P (Str.ofString "_law_cell_at") 338 (.ref 94), en P (Str.ofString "_law_stir") 345 (.ref 101), en P (Str.ofString "_law_next") 352 (.ref 108), en P (Str.ofString "_law_word") 366 (.ref 115), en P (Str.ofString "_law_prices") 377 (.ref 122), en P (Str.ofString "_law_eye") 383 (.ref 127), en P (Str.ofString "_law_slip") 397 (.ref 134), en P (Str.ofString "_law_pair") 413 (.ref 141), en P (Str.ofString "_law_made_pairs") 426 (.ref 148), en P (Str.ofString "_law_alike") 432 (.ref 153), en P (Str.ofString "_law_price") 442 (.ref 160), en P (Str.ofString "_law_formed") 448 (.ref 165), en P (Str.ofString "_law_does") 459 (.ref 172), en P (Str.ofString "_law_made") 473 (.ref 179), en P (Str.ofString "_law_walked") 489 (.ref 186), en P (Str.ofString "_law_is_step") 496 (.ref 193), en P (Str.ofString "_law_told_well") 502 (.ref 198), en P (Str.ofString "law") 508 (.ref 203)] 41 } : Obj)) ::
  (nat_lit 18, (co "looks_alike" 189 190 191 2 2 3 15 181 16 17 192 2 193 : Obj)) ::
  (nat_lit 19, (fn "looks_alike" sLooks "vellum.words" 187 18 : Obj)) ::
  (nat_lit 20, ({ cls := .type "dict", data := .dict #[en P (Str.ofString "turn") 199 (.int 1 200), en P (Str.ofString "lose") 201 (.int 2 202), en P (Str.ofString "add") 203 (.int 3 204), en P (Str.ofString "twice") 205 (.int 4 206), en P (Str.ofString "swap") 207 (.int 5 208), en P (Str.ofString "skip") 209 (.int 6 210)] 6 } : Obj)) ::
  (nat_lit 26, ({ cls := .type "code", data := .fields #[.str (Str.ofString "step_price") 218, .str (Str.ofString "step_price") 219, .str (Str.ofString "/claim/cut.py") 220, .int 10 0, .int 4 0, .int 0 0, .int 0 0, .int 3 0, .ref 21, .bool true, .int 181 0, .ref 22, .none, .ref 23, .ref 24, .ref 25, .int 226 0, .int 10 0, .str (Str.ofString "/claim/cut.py") 227] } : Obj)) ::
  (nat_lit 27, (fn "step_price" sPrice "vellum.slips" 195 26 : Obj)) ::
  (nat_lit 33, ({ cls := .type "code", data := .fields #[.str (Str.ofString "swap_writes") 231, .str (Str.ofString "swap_writes") 232, .str (Str.ofString "/claim/cut.py") 233, .int 18 0, .int 4 0, .int 0 0, .int 0 0, .int 3 0, .ref 28, .bool true, .int 181 0, .ref 29, .none, .ref 30, .ref 31, .ref 32, .int 238 0, .int 18 0, .str (Str.ofString "/claim/cut.py") 239] } : Obj)) ::
  (nat_lit 34, (fn "swap_writes" sSwW "vellum.grid" 229 33 : Obj)) ::
  (nat_lit 38, (co "skip_lengths" 241 242 243 22 2 3 35 181 36 37 244 22 245 : Obj)) ::
  (nat_lit 39, (fn "skip_lengths" sSkL "vellum.grid" 229 38 : Obj)) ::
  (nat_lit 43, (co "knot_ways" 247 248 249 26 4 3 40 181 41 42 250 26 251 : Obj)) ::
  (nat_lit 44, (fn "knot_ways" sWays "vellum.grid" 229 43 : Obj)) ::
  (nat_lit 48, (co "empty_table" 253 254 255 41 2 3 45 181 46 47 256 41 257 : Obj)) ::
  (nat_lit 49, (fn "empty_table" sEmp "vellum.grid" 229 48 : Obj)) ::
  (nat_lit 53, (co "table_told" 259 260 261 43 1 3 50 181 51 52 262 43 263 : Obj)) ::
  (nat_lit 54, (fn "table_told" sTld "vellum.grid" 229 53 : Obj)) ::
  (nat_lit 60, ({ cls := .type "code", data := .fields #[.str (Str.ofString "price_table") 265, .str (Str.ofString "price_table") 266, .str (Str.ofString "/claim/cut.py") 267, .int 45 0, .int 3 0, .int 0 0, .int 0 0, .int 3 0, .ref 55, .bool true, .int 181 0, .ref 56, .none, .ref 57, .ref 58, .ref 59, .int 278 0, .int 45 0, .str (Str.ofString "/claim/cut.py") 279] } : Obj)) ::
  (nat_lit 61, (fn "price_table" sPtab "vellum.grid" 229 60 : Obj)) ::
  (nat_lit 65, (co "rest_table" 281 282 283 55 3 3 62 181 63 64 284 55 285 : Obj)) ::
  (nat_lit 66, (fn "rest_table" sRtab "vellum.grid" 229 65 : Obj)) ::
  (nat_lit 72, ({ cls := .type "code", data := .fields #[.str (Str.ofString "cheapest_ways") 289, .str (Str.ofString "cheapest_ways") 290, .str (Str.ofString "/claim/cut.py") 291, .int 64 0, .int 6 0, .int 0 0, .int 0 0, .int 3 0, .ref 67, .bool true, .int 181 0, .ref 68, .none, .ref 69, .ref 70, .ref 71, .int 302 0, .int 64 0, .str (Str.ofString "/claim/cut.py") 303] } : Obj)) ::
  (nat_lit 73, (fn "cheapest_ways" sCW "vellum.least" 287 72 : Obj)) ::
  (nat_lit 79, ({ cls := .type "code", data := .fields #[.str (Str.ofString "first_cheapest") 305, .str (Str.ofString "first_cheapest") 306, .str (Str.ofString "/claim/cut.py") 307, .int 70 0, .int 3 0, .int 0 0, .int 0 0, .int 3 0, .ref 74, .bool true, .int 181 0, .ref 75, .none, .ref 76, .ref 77, .ref 78, .int 316 0, .int 70 0, .str (Str.ofString "/claim/cut.py") 317] } : Obj)) ::
  (nat_lit 80, (fn "first_cheapest" sFC "vellum.least" 287 79 : Obj)) ::
  (nat_lit 86, ({ cls := .type "code", data := .fields #[.str (Str.ofString "least_slips") 319, .str (Str.ofString "least_slips") 320, .str (Str.ofString "/claim/cut.py") 321, .int 81 0, .int 3 0, .int 0 0, .int 0 0, .int 3 0, .ref 81, .bool true, .int 181 0, .ref 82, .none, .ref 83, .ref 84, .ref 85, .int 326 0, .int 81 0, .str (Str.ofString "/claim/cut.py") 327] } : Obj)) ::
  (nat_lit 87, (fn "least_slips" sLs "vellum.least" 287 86 : Obj)) ::
  (nat_lit 93, ({ cls := .type "code", data := .fields #[.str (Str.ofString "_law_cell_at") 331, .str (Str.ofString "_law_cell_at") 332, .str (Str.ofString "/claim/cut.py") 333, .int 85 0, .int 2 0, .int 0 0, .int 0 0, .int 3 0, .ref 88, .bool true, .int 181 0, .ref 89, .none, .ref 90, .ref 91, .ref 92, .int 336 0, .int 85 0, .str (Str.ofString "/claim/cut.py") 337] } : Obj)) ::
  (nat_lit 94, (fn "_law_cell_at" sCell "law_vellum_k20_whole_no_drawn_slips_are_chea" 329 93 : Obj)) ::
  (nat_lit 100, ({ cls := .type "code", data := .fields #[.str (Str.ofString "_law_stir") 339, .str (Str.ofString "_law_stir") 340, .str (Str.ofString "/claim/cut.py") 341, .int 89 0, .int 1 0, .int 0 0, .int 0 0, .int 3 0, .ref 95, .bool true, .int 181 0, .ref 96, .none, .ref 97, .ref 98, .ref 99, .int 343 0, .int 89 0, .str (Str.ofString "/claim/cut.py") 344] } : Obj)) ::
  (nat_lit 101, (fn "_law_stir" sStir "law_vellum_k20_whole_no_drawn_slips_are_chea" 329 100 : Obj)) ::
  (nat_lit 107, ({ cls := .type "code", data := .fields #[.str (Str.ofString "_law_next") 346, .str (Str.ofString "_law_next") 347, .str (Str.ofString "/claim/cut.py") 348, .int 91 0, .int 1 0, .int 0 0, .int 0 0, .int 3 0, .ref 102, .bool true, .int 181 0, .ref 103, .none, .ref 104, .ref 105, .ref 106, .int 350 0, .int 91 0, .str (Str.ofString "/claim/cut.py") 351] } : Obj)) ::
  (nat_lit 108, (fn "_law_next" sNext "law_vellum_k20_whole_no_drawn_slips_are_chea" 329 107 : Obj)) ::
  (nat_lit 114, ({ cls := .type "code", data := .fields #[.str (Str.ofString "_law_word") 353, .str (Str.ofString "_law_word") 354, .str (Str.ofString "/claim/cut.py") 355, .int 93 0, .int 2 0, .int 0 0, .int 0 0, .int 3 0, .ref 109, .bool true, .int 181 0, .ref 110, .none, .ref 111, .ref 112, .ref 113, .int 364 0, .int 93 0, .str (Str.ofString "/claim/cut.py") 365] } : Obj)) ::
  (nat_lit 115, (fn "_law_word" sWord "law_vellum_k20_whole_no_drawn_slips_are_chea" 329 114 : Obj)) ::
  (nat_lit 121, ({ cls := .type "code", data := .fields #[.str (Str.ofString "_law_prices") 367, .str (Str.ofString "_law_prices") 368, .str (Str.ofString "/claim/cut.py") 369, .int 107 0, .int 1 0, .int 0 0, .int 0 0, .int 3 0, .ref 116, .bool true, .int 181 0, .ref 117, .none, .ref 118, .ref 119, .ref 120, .int 375 0, .int 107 0, .str (Str.ofString "/claim/cut.py") 376] } : Obj)) ::
  (nat_lit 122, (fn "_law_prices" sPrices "law_vellum_k20_whole_no_drawn_slips_are_chea" 329 121 : Obj)) ::
  (nat_lit 126, (co "_law_eye" 378 379 380 119 4 3 123 181 124 125 381 119 382 : Obj)) ::
  (nat_lit 127, (fn "_law_eye" sEye "law_vellum_k20_whole_no_drawn_slips_are_chea" 329 126 : Obj)) ::
  (nat_lit 133, ({ cls := .type "code", data := .fields #[.str (Str.ofString "_law_slip") 384, .str (Str.ofString "_law_slip") 385, .str (Str.ofString "/claim/cut.py") 386, .int 122 0, .int 5 0, .int 0 0, .int 0 0, .int 3 0, .ref 128, .bool true, .int 181 0, .ref 129, .none, .ref 130, .ref 131, .ref 132, .int 395 0, .int 122 0, .str (Str.ofString "/claim/cut.py") 396] } : Obj)) ::
  (nat_lit 134, (fn "_law_slip" sSlip "law_vellum_k20_whole_no_drawn_slips_are_chea" 329 133 : Obj)) ::
  (nat_lit 140, ({ cls := .type "code", data := .fields #[.str (Str.ofString "_law_pair") 398, .str (Str.ofString "_law_pair") 399, .str (Str.ofString "/claim/cut.py") 400, .int 147 0, .int 3 0, .int 0 0, .int 0 0, .int 3 0, .ref 135, .bool true, .int 181 0, .ref 136, .none, .ref 137, .ref 138, .ref 139, .int 411 0, .int 147 0, .str (Str.ofString "/claim/cut.py") 412] } : Obj)) ::
  (nat_lit 141, (fn "_law_pair" sPair "law_vellum_k20_whole_no_drawn_slips_are_chea" 329 140 : Obj)) ::
  (nat_lit 147, ({ cls := .type "code", data := .fields #[.str (Str.ofString "_law_made_pairs") 414, .str (Str.ofString "_law_made_pairs") 415, .str (Str.ofString "/claim/cut.py") 416, .int 161 0, .int 2 0, .int 0 0, .int 0 0, .int 3 0, .ref 142, .bool true, .int 181 0, .ref 143, .none, .ref 144, .ref 145, .ref 146, .int 424 0, .int 161 0, .str (Str.ofString "/claim/cut.py") 425] } : Obj)) ::
  (nat_lit 148, (fn "_law_made_pairs" sMP "law_vellum_k20_whole_no_drawn_slips_are_chea" 329 147 : Obj)) ::
  (nat_lit 152, (co "_law_alike" 427 428 429 173 2 3 149 181 150 151 430 173 431 : Obj)) ::
  (nat_lit 153, (fn "_law_alike" sLAlk "law_vellum_k20_whole_no_drawn_slips_are_chea" 329 152 : Obj)) ::
  (nat_lit 159, ({ cls := .type "code", data := .fields #[.str (Str.ofString "_law_price") 433, .str (Str.ofString "_law_price") 434, .str (Str.ofString "/claim/cut.py") 435, .int 175 0, .int 4 0, .int 0 0, .int 0 0, .int 3 0, .ref 154, .bool true, .int 181 0, .ref 155, .none, .ref 156, .ref 157, .ref 158, .int 440 0, .int 175 0, .str (Str.ofString "/claim/cut.py") 441] } : Obj)) ::
  (nat_lit 160, (fn "_law_price" sLPrice "law_vellum_k20_whole_no_drawn_slips_are_chea" 329 159 : Obj)) ::
  (nat_lit 164, (co "_law_formed" 443 444 445 181 3 3 161 181 162 163 446 181 447 : Obj)) ::
  (nat_lit 165, (fn "_law_formed" sFormed "law_vellum_k20_whole_no_drawn_slips_are_chea" 329 164 : Obj)) ::
  (nat_lit 171, ({ cls := .type "code", data := .fields #[.str (Str.ofString "_law_does") 449, .str (Str.ofString "_law_does") 450, .str (Str.ofString "/claim/cut.py") 451, .int 190 0, .int 4 0, .int 0 0, .int 0 0, .int 3 0, .ref 166, .bool true, .int 181 0, .ref 167, .none, .ref 168, .ref 169, .ref 170, .int 457 0, .int 190 0, .str (Str.ofString "/claim/cut.py") 458] } : Obj)) ::
  (nat_lit 172, (fn "_law_does" sDoes "law_vellum_k20_whole_no_drawn_slips_are_chea" 329 171 : Obj)) ::
  (nat_lit 178, ({ cls := .type "code", data := .fields #[.str (Str.ofString "_law_made") 460, .str (Str.ofString "_law_made") 461, .str (Str.ofString "/claim/cut.py") 462, .int 207 0, .int 3 0, .int 0 0, .int 0 0, .int 3 0, .ref 173, .bool true, .int 181 0, .ref 174, .none, .ref 175, .ref 176, .ref 177, .int 471 0, .int 207 0, .str (Str.ofString "/claim/cut.py") 472] } : Obj)) ::
  (nat_lit 179, (fn "_law_made" sMade "law_vellum_k20_whole_no_drawn_slips_are_chea" 329 178 : Obj)) ::
  (nat_lit 185, ({ cls := .type "code", data := .fields #[.str (Str.ofString "_law_walked") 474, .str (Str.ofString "_law_walked") 475, .str (Str.ofString "/claim/cut.py") 476, .int 221 0, .int 5 0, .int 0 0, .int 0 0, .int 3 0, .ref 180, .bool true, .int 181 0, .ref 181, .none, .ref 182, .ref 183, .ref 184, .int 487 0, .int 221 0, .str (Str.ofString "/claim/cut.py") 488] } : Obj)) ::
  (nat_lit 186, (fn "_law_walked" sLWk "law_vellum_k20_whole_no_drawn_slips_are_chea" 329 185 : Obj)) ::
  (nat_lit 192, ({ cls := .type "code", data := .fields #[.str (Str.ofString "_law_is_step") 490, .str (Str.ofString "_law_is_step") 491, .str (Str.ofString "/claim/cut.py") 492, .int 232 0, .int 1 0, .int 0 0, .int 0 0, .int 3 0, .ref 187, .bool true, .int 181 0, .ref 188, .none, .ref 189, .ref 190, .ref 191, .int 494 0, .int 232 0, .str (Str.ofString "/claim/cut.py") 495] } : Obj)) ::
  (nat_lit 193, (fn "_law_is_step" sIs "law_vellum_k20_whole_no_drawn_slips_are_chea" 329 192 : Obj)) ::
  (nat_lit 197, (co "_law_told_well" 497 498 499 240 2 3 194 181 195 196 500 240 501 : Obj)) ::
  (nat_lit 198, (fn "_law_told_well" sTW "law_vellum_k20_whole_no_drawn_slips_are_chea" 329 197 : Obj)) ::
  (nat_lit 202, (co "law" 503 504 505 256 1 3 199 181 200 201 506 256 507 : Obj)) ::
  (nat_lit 203, (fn "law" sLaw "law_vellum_k20_whole_no_drawn_slips_are_chea" 329 202 : Obj)) ::
  []
noncomputable def view : Program := { PySem.Challenge.pw_vellum_k20_whole_no_drawn_slips_are_chea with main := { (PySem.Challenge.pw_vellum_k20_whole_no_drawn_slips_are_chea).main with body := [top 36] } }
abbrev ad : List Addr := nat_lit 2 :: nat_lit 3 :: nat_lit 18 :: nat_lit 19 :: nat_lit 20 :: nat_lit 26 :: nat_lit 27 :: nat_lit 33 :: nat_lit 34 :: nat_lit 38 :: nat_lit 39 :: nat_lit 43 :: nat_lit 44 :: nat_lit 48 :: nat_lit 49 :: nat_lit 53 :: nat_lit 54 :: nat_lit 60 :: nat_lit 61 :: nat_lit 65 :: nat_lit 66 :: nat_lit 72 :: nat_lit 73 :: nat_lit 79 :: nat_lit 80 :: nat_lit 86 :: nat_lit 87 :: nat_lit 93 :: nat_lit 94 :: nat_lit 100 :: nat_lit 101 :: nat_lit 107 :: nat_lit 108 :: nat_lit 114 :: nat_lit 115 :: nat_lit 121 :: nat_lit 122 :: nat_lit 126 :: nat_lit 127 :: nat_lit 133 :: nat_lit 134 :: nat_lit 140 :: nat_lit 141 :: nat_lit 147 :: nat_lit 148 :: nat_lit 152 :: nat_lit 153 :: nat_lit 159 :: nat_lit 160 :: nat_lit 164 :: nat_lit 165 :: nat_lit 171 :: nat_lit 172 :: nat_lit 178 :: nat_lit 179 :: nat_lit 185 :: nat_lit 186 :: nat_lit 192 :: nat_lit 193 :: nat_lit 197 :: nat_lit 198 :: nat_lit 202 :: nat_lit 203 :: []
theorem ad_hp : ∀ P, ad = (hp P).map (·.1) := fun _ => by kernel_rfl
theorem left_false : ∀ w : World, (fun w => (PySem.W.openEnds PySem.treeTable PySem.Challenge.pw_vellum_k20_whole_no_drawn_slips_are_chea w 2292).map (fun s => (PySem.W.openSeen K20.view [Str.ofString "looks_alike", Str.ofString "LIKE", Str.ofString "PRICE_PLACES", Str.ofString "step_price", Str.ofString "swap_writes", Str.ofString "skip_lengths", Str.ofString "knot_ways", Str.ofString "empty_table", Str.ofString "table_told", Str.ofString "price_table", Str.ofString "rest_table", Str.ofString "cheapest_ways", Str.ofString "first_cheapest", Str.ofString "least_slips", Str.ofString "_law_cell_at", Str.ofString "_law_stir", Str.ofString "_law_next", Str.ofString "_law_word", Str.ofString "_law_prices", Str.ofString "_law_eye", Str.ofString "_law_slip", Str.ofString "_law_pair", Str.ofString "_law_made_pairs", Str.ofString "_law_alike", Str.ofString "_law_price", Str.ofString "_law_formed", Str.ofString "_law_does", Str.ofString "_law_made", Str.ofString "_law_walked", Str.ofString "_law_is_step", Str.ofString "_law_told_well"] (importedModules (PySem.Challenge.pw_vellum_k20_whole_no_drawn_slips_are_chea).main.body) (fun s => PySem.W.xlAt K20.view [] s && PySem.W.recOk (PySem.W.RowW.records (PySem.W.OpenRow.toRowW PySem.Challenge.rw_vellum_k20_whole_no_drawn_slips_are_chea.row)) s) true s, PySem.W.Hook.obs (PySem.W.kHook K20.hp K20.ad K20.ad_hp) s)) = some (PySem.W.openGood K20.view [Str.ofString "looks_alike", Str.ofString "LIKE", Str.ofString "PRICE_PLACES", Str.ofString "step_price", Str.ofString "swap_writes", Str.ofString "skip_lengths", Str.ofString "knot_ways", Str.ofString "empty_table", Str.ofString "table_told", Str.ofString "price_table", Str.ofString "rest_table", Str.ofString "cheapest_ways", Str.ofString "first_cheapest", Str.ofString "least_slips", Str.ofString "_law_cell_at", Str.ofString "_law_stir", Str.ofString "_law_next", Str.ofString "_law_word", Str.ofString "_law_prices", Str.ofString "_law_eye", Str.ofString "_law_slip", Str.ofString "_law_pair", Str.ofString "_law_made_pairs", Str.ofString "_law_alike", Str.ofString "_law_price", Str.ofString "_law_formed", Str.ofString "_law_does", Str.ofString "_law_made", Str.ofString "_law_walked", Str.ofString "_law_is_step", Str.ofString "_law_told_well"], PySem.W.Hook.val (PySem.W.kHook K20.hp K20.ad K20.ad_hp) w)) (w.withFollow "special-get-raises" false) := fun w => by kernel_rfl
theorem left_true : ∀ w : World, (fun w => (PySem.W.openEnds PySem.treeTable PySem.Challenge.pw_vellum_k20_whole_no_drawn_slips_are_chea w 2292).map (fun s => (PySem.W.openSeen K20.view [Str.ofString "looks_alike", Str.ofString "LIKE", Str.ofString "PRICE_PLACES", Str.ofString "step_price", Str.ofString "swap_writes", Str.ofString "skip_lengths", Str.ofString "knot_ways", Str.ofString "empty_table", Str.ofString "table_told", Str.ofString "price_table", Str.ofString "rest_table", Str.ofString "cheapest_ways", Str.ofString "first_cheapest", Str.ofString "least_slips", Str.ofString "_law_cell_at", Str.ofString "_law_stir", Str.ofString "_law_next", Str.ofString "_law_word", Str.ofString "_law_prices", Str.ofString "_law_eye", Str.ofString "_law_slip", Str.ofString "_law_pair", Str.ofString "_law_made_pairs", Str.ofString "_law_alike", Str.ofString "_law_price", Str.ofString "_law_formed", Str.ofString "_law_does", Str.ofString "_law_made", Str.ofString "_law_walked", Str.ofString "_law_is_step", Str.ofString "_law_told_well"] (importedModules (PySem.Challenge.pw_vellum_k20_whole_no_drawn_slips_are_chea).main.body) (fun s => PySem.W.xlAt K20.view [] s && PySem.W.recOk (PySem.W.RowW.records (PySem.W.OpenRow.toRowW PySem.Challenge.rw_vellum_k20_whole_no_drawn_slips_are_chea.row)) s) true s, PySem.W.Hook.obs (PySem.W.kHook K20.hp K20.ad K20.ad_hp) s)) = some (PySem.W.openGood K20.view [Str.ofString "looks_alike", Str.ofString "LIKE", Str.ofString "PRICE_PLACES", Str.ofString "step_price", Str.ofString "swap_writes", Str.ofString "skip_lengths", Str.ofString "knot_ways", Str.ofString "empty_table", Str.ofString "table_told", Str.ofString "price_table", Str.ofString "rest_table", Str.ofString "cheapest_ways", Str.ofString "first_cheapest", Str.ofString "least_slips", Str.ofString "_law_cell_at", Str.ofString "_law_stir", Str.ofString "_law_next", Str.ofString "_law_word", Str.ofString "_law_prices", Str.ofString "_law_eye", Str.ofString "_law_slip", Str.ofString "_law_pair", Str.ofString "_law_made_pairs", Str.ofString "_law_alike", Str.ofString "_law_price", Str.ofString "_law_formed", Str.ofString "_law_does", Str.ofString "_law_made", Str.ofString "_law_walked", Str.ofString "_law_is_step", Str.ofString "_law_told_well"], PySem.W.Hook.val (PySem.W.kHook K20.hp K20.ad K20.ad_hp) w)) (w.withFollow "special-get-raises" true) := fun w => by kernel_rfl
theorem left : PySem.W.LeftO PySem.Challenge.pw_vellum_k20_whole_no_drawn_slips_are_chea view [Str.ofString "looks_alike", Str.ofString "LIKE", Str.ofString "PRICE_PLACES", Str.ofString "step_price", Str.ofString "swap_writes", Str.ofString "skip_lengths", Str.ofString "knot_ways", Str.ofString "empty_table", Str.ofString "table_told", Str.ofString "price_table", Str.ofString "rest_table", Str.ofString "cheapest_ways", Str.ofString "first_cheapest", Str.ofString "least_slips", Str.ofString "_law_cell_at", Str.ofString "_law_stir", Str.ofString "_law_next", Str.ofString "_law_word", Str.ofString "_law_prices", Str.ofString "_law_eye", Str.ofString "_law_slip", Str.ofString "_law_pair", Str.ofString "_law_made_pairs", Str.ofString "_law_alike", Str.ofString "_law_price", Str.ofString "_law_formed", Str.ofString "_law_does", Str.ofString "_law_made", Str.ofString "_law_walked", Str.ofString "_law_is_step", Str.ofString "_law_told_well"] (fun s => PySem.W.xlAt K20.view [] s && PySem.W.recOk (PySem.W.RowW.records (PySem.W.OpenRow.toRowW PySem.Challenge.rw_vellum_k20_whole_no_drawn_slips_are_chea.row)) s) (PySem.W.Hook.obs (PySem.W.kHook K20.hp K20.ad K20.ad_hp)) (PySem.W.Hook.val (PySem.W.kHook K20.hp K20.ad K20.ad_hp)) 2292 :=
  PySem.W.byRow2 (P := fun w => (PySem.W.openEnds PySem.treeTable PySem.Challenge.pw_vellum_k20_whole_no_drawn_slips_are_chea w 2292).map (fun s => (PySem.W.openSeen K20.view [Str.ofString "looks_alike", Str.ofString "LIKE", Str.ofString "PRICE_PLACES", Str.ofString "step_price", Str.ofString "swap_writes", Str.ofString "skip_lengths", Str.ofString "knot_ways", Str.ofString "empty_table", Str.ofString "table_told", Str.ofString "price_table", Str.ofString "rest_table", Str.ofString "cheapest_ways", Str.ofString "first_cheapest", Str.ofString "least_slips", Str.ofString "_law_cell_at", Str.ofString "_law_stir", Str.ofString "_law_next", Str.ofString "_law_word", Str.ofString "_law_prices", Str.ofString "_law_eye", Str.ofString "_law_slip", Str.ofString "_law_pair", Str.ofString "_law_made_pairs", Str.ofString "_law_alike", Str.ofString "_law_price", Str.ofString "_law_formed", Str.ofString "_law_does", Str.ofString "_law_made", Str.ofString "_law_walked", Str.ofString "_law_is_step", Str.ofString "_law_told_well"] (importedModules (PySem.Challenge.pw_vellum_k20_whole_no_drawn_slips_are_chea).main.body) (fun s => PySem.W.xlAt K20.view [] s && PySem.W.recOk (PySem.W.RowW.records (PySem.W.OpenRow.toRowW PySem.Challenge.rw_vellum_k20_whole_no_drawn_slips_are_chea.row)) s) true s, PySem.W.Hook.obs (PySem.W.kHook K20.hp K20.ad K20.ad_hp) s)) = some (PySem.W.openGood K20.view [Str.ofString "looks_alike", Str.ofString "LIKE", Str.ofString "PRICE_PLACES", Str.ofString "step_price", Str.ofString "swap_writes", Str.ofString "skip_lengths", Str.ofString "knot_ways", Str.ofString "empty_table", Str.ofString "table_told", Str.ofString "price_table", Str.ofString "rest_table", Str.ofString "cheapest_ways", Str.ofString "first_cheapest", Str.ofString "least_slips", Str.ofString "_law_cell_at", Str.ofString "_law_stir", Str.ofString "_law_next", Str.ofString "_law_word", Str.ofString "_law_prices", Str.ofString "_law_eye", Str.ofString "_law_slip", Str.ofString "_law_pair", Str.ofString "_law_made_pairs", Str.ofString "_law_alike", Str.ofString "_law_price", Str.ofString "_law_formed", Str.ofString "_law_does", Str.ofString "_law_made", Str.ofString "_law_walked", Str.ofString "_law_is_step", Str.ofString "_law_told_well"], PySem.W.Hook.val (PySem.W.kHook K20.hp K20.ad K20.ad_hp) w)) "special-get-raises" left_false left_true
end K20
open PySem PySem.W PyProof.Rows
set_option maxRecDepth 100000 in
set_option maxHeartbeats 0 in
theorem PySem.Challenge.cw_vellum_k20_whole_no_drawn_slips_are_chea_holds : PySem.Challenge.rw_vellum_k20_whole_no_drawn_slips_are_chea.Holds := by
  w_on
  refine holds_law (by kernel_rfl) fun said => ?_
  refine holds_open (q := K20.view) (loose := [Str.ofString "looks_alike", Str.ofString "LIKE", Str.ofString "PRICE_PLACES", Str.ofString "step_price", Str.ofString "swap_writes", Str.ofString "skip_lengths", Str.ofString "knot_ways", Str.ofString "empty_table", Str.ofString "table_told", Str.ofString "price_table", Str.ofString "rest_table", Str.ofString "cheapest_ways", Str.ofString "first_cheapest", Str.ofString "least_slips", Str.ofString "_law_cell_at", Str.ofString "_law_stir", Str.ofString "_law_next", Str.ofString "_law_word", Str.ofString "_law_prices", Str.ofString "_law_eye", Str.ofString "_law_slip", Str.ofString "_law_pair", Str.ofString "_law_made_pairs", Str.ofString "_law_alike", Str.ofString "_law_price", Str.ofString "_law_formed", Str.ofString "_law_does", Str.ofString "_law_made", Str.ofString "_law_walked", Str.ofString "_law_is_step", Str.ofString "_law_told_well"]) (Xt := (fun s => PySem.W.xlAt K20.view [] s && PySem.W.recOk (PySem.W.RowW.records (PySem.W.OpenRow.toRowW PySem.Challenge.rw_vellum_k20_whole_no_drawn_slips_are_chea.row)) s)) (XP := XL K20.view [])
    (YP := Hook.says (PySem.W.kHook K20.hp K20.ad K20.ad_hp)) (N := 2292)
    K20.left (Hook.of _) (Hook.keeps _) (fun s e => xl_of s (Bool.and_eq_true_iff.mp e).1)
    XL.keeps rfl rfl rfl
    (fun s e => recFacts_of (Bool.and_eq_true_iff.mp e).2) rfl said
    (by decide +kernel)
    ⟨rfl, rfl, rfl, rfl, rfl, by decide +kernel⟩ ?hw ?hc
  case hw => w_witness2
  k_fill
  refine K20.walk (l := PySem.Challenge.rw_vellum_k20_whole_no_drawn_slips_are_chea) rfl rfl (fun w h Y => PySem.W.kIn_of Y) ?F
  case F =>
    intro w mg fa h KX G hmg
    refine' K20.all_mk KX G hmg ?aLooks ?lLooks ?cLooks ?kLooks ?aPrice ?lPrice ?cPrice ?kPrice ?aSwW ?lSwW ?cSwW ?kSwW ?aSkL ?lSkL ?cSkL ?kSkL ?aWays ?lWays ?cWays ?kWays ?aEmp ?lEmp ?cEmp ?kEmp ?aTld ?lTld ?cTld ?kTld ?aPtab ?lPtab ?cPtab ?kPtab ?aRtab ?lRtab ?cRtab ?kRtab ?aCW ?lCW ?cCW ?kCW ?aFC ?lFC ?cFC ?kFC ?aLs ?lLs ?cLs ?kLs ?aCell ?lCell ?cCell ?kCell ?aStir ?lStir ?cStir ?kStir ?aNext ?lNext ?cNext ?kNext ?aWord ?lWord ?cWord ?kWord ?aPrices ?lPrices ?cPrices ?kPrices ?aEye ?lEye ?cEye ?kEye ?aSlip ?lSlip ?cSlip ?kSlip ?aPair ?lPair ?cPair ?kPair ?aMP ?lMP ?cMP ?kMP ?aLAlk ?lLAlk ?cLAlk ?kLAlk ?aLPrice ?lLPrice ?cLPrice ?kLPrice ?aFormed ?lFormed ?cFormed ?kFormed ?aDoes ?lDoes ?cDoes ?kDoes ?aMade ?lMade ?cMade ?kMade ?aLWk ?lLWk ?cLWk ?kLWk ?aIs ?lIs ?cIs ?kIs ?aTW ?lTW ?cTW ?kTW ?aLaw ?lLaw ?cLaw ?kLaw ?gLIKE ?gPRICE_PLACES ?blen ?brange ?bisinstance ?btuple ?bstr ?bint ?bbool ?bmax ?bmin ?ball ?i6 ?dl ?dk ?d1 ?d2 ?d3 ?d4 ?d5 ?d6
    (case aLooks => k_is)
    (case lLooks => k_is)
    (case cLooks => k_is)
    (case kLooks => k_is)
    (case aPrice => k_is)
    (case lPrice => k_is)
    (case cPrice => k_is)
    (case kPrice => k_is)
    (case aSwW => k_is)
    (case lSwW => k_is)
    (case cSwW => k_is)
    (case kSwW => k_is)
    (case aSkL => k_is)
    (case lSkL => k_is)
    (case cSkL => k_is)
    (case kSkL => k_is)
    (case aWays => k_is)
    (case lWays => k_is)
    (case cWays => k_is)
    (case kWays => k_is)
    (case aEmp => k_is)
    (case lEmp => k_is)
    (case cEmp => k_is)
    (case kEmp => k_is)
    (case aTld => k_is)
    (case lTld => k_is)
    (case cTld => k_is)
    (case kTld => k_is)
    (case aPtab => k_is)
    (case lPtab => k_is)
    (case cPtab => k_is)
    (case kPtab => k_is)
    (case aRtab => k_is)
    (case lRtab => k_is)
    (case cRtab => k_is)
    (case kRtab => k_is)
    (case aCW => k_is)
    (case lCW => k_is)
    (case cCW => k_is)
    (case kCW => k_is)
    (case aFC => k_is)
    (case lFC => k_is)
    (case cFC => k_is)
    (case kFC => k_is)
    (case aLs => k_is)
    (case lLs => k_is)
    (case cLs => k_is)
    (case kLs => k_is)
    (case aCell => k_is)
    (case lCell => k_is)
    (case cCell => k_is)
    (case kCell => k_is)
    (case aStir => k_is)
    (case lStir => k_is)
    (case cStir => k_is)
    (case kStir => k_is)
    (case aNext => k_is)
    (case lNext => k_is)
    (case cNext => k_is)
    (case kNext => k_is)
    (case aWord => k_is)
    (case lWord => k_is)
    (case cWord => k_is)
    (case kWord => k_is)
    (case aPrices => k_is)
    (case lPrices => k_is)
    (case cPrices => k_is)
    (case kPrices => k_is)
    (case aEye => k_is)
    (case lEye => k_is)
    (case cEye => k_is)
    (case kEye => k_is)
    (case aSlip => k_is)
    (case lSlip => k_is)
    (case cSlip => k_is)
    (case kSlip => k_is)
    (case aPair => k_is)
    (case lPair => k_is)
    (case cPair => k_is)
    (case kPair => k_is)
    (case aMP => k_is)
    (case lMP => k_is)
    (case cMP => k_is)
    (case kMP => k_is)
    (case aLAlk => k_is)
    (case lLAlk => k_is)
    (case cLAlk => k_is)
    (case kLAlk => k_is)
    (case aLPrice => k_is)
    (case lLPrice => k_is)
    (case cLPrice => k_is)
    (case kLPrice => k_is)
    (case aFormed => k_is)
    (case lFormed => k_is)
    (case cFormed => k_is)
    (case kFormed => k_is)
    (case aDoes => k_is)
    (case lDoes => k_is)
    (case cDoes => k_is)
    (case kDoes => k_is)
    (case aMade => k_is)
    (case lMade => k_is)
    (case cMade => k_is)
    (case kMade => k_is)
    (case aLWk => k_is)
    (case lLWk => k_is)
    (case cLWk => k_is)
    (case kLWk => k_is)
    (case aIs => k_is)
    (case lIs => k_is)
    (case cIs => k_is)
    (case kIs => k_is)
    (case aTW => k_is)
    (case lTW => k_is)
    (case cTW => k_is)
    (case kTW => k_is)
    (case aLaw => k_is)
    (case lLaw => k_is)
    (case cLaw => k_is)
    (case kLaw => k_is)
    (case gLIKE => k_is)
    (case gPRICE_PLACES => k_is)
    (case blen => k_is)
    (case brange => k_is)
    (case bisinstance => k_is)
    (case btuple => k_is)
    (case bstr => k_is)
    (case bint => k_is)
    (case bbool => k_is)
    (case bmax => k_is)
    (case bmin => k_is)
    (case ball => k_is)
    (case i6 => kit_is)
    (case dl => k_is)
    (case dk => k_keys)
    (case d1 => k_is)
    (case d2 => k_is)
    (case d3 => k_is)
    (case d4 => k_is)
    (case d5 => k_is)
    (case d6 => k_is)
