import PyProof.Rows.All
import Wide.All
import OpenK.AllK
import Wide.FinOn
import Lean
import PyProof.EqAt
import PyProof.EqKinds
import PyProof.TupleCall
import PyProof.ListMulRoad
import PyProof.Rows.ListMul
import KE.KRevIter
import PyProof.TupleOfSeq
import PyProof.CollectIter
import PyProof.TupleOfGen
import PySem.Challenge.RW_vellum_k29_notes_refused
set_option Elab.async false
set_option linter.all false
set_option maxRecDepth 100000
namespace L2
open PySem PySem.Spec PyProof.Rows
abbrev Key := Sum Int Str
def keyIs : Key → Value → Bool
  | .inl k, v => Value.isInt k v
  | .inr x, v => Value.isStrOf x v
def keyH (w : World) : Key → Int
  | .inl k => hashInt k
  | .inr x => hashStr w x
theorem keyIs_shape : ∀ {k : Key} {v : Value}, keyIs k v = true → (∃ i t, k = Sum.inl i ∧ v = Value.int i t) ∨ (∃ x t, k = Sum.inr x ∧ v = Value.str x t)
  | .inl i, v, h => by
    obtain ⟨t, e⟩ := Value.isInt_shape (k := i) (v := v) h
    exact .inl ⟨i, t, rfl, e⟩
  | .inr x, v, h => by
    obtain ⟨t, e⟩ := Value.isStrOf_shape (x := x) (v := v) h
    exact .inr ⟨x, t, rfl, e⟩
theorem keyIs_str (x : Str) (t : Tok) : keyIs (.inr x) (.str x t) = true := by simp [keyIs, Value.isStrOf]
theorem key_ll (a b : Int) : decide ((Sum.inl a : Key) = Sum.inl b) = (a == b) := by
  by_cases e : a = b
  · subst e; simp
  · have h : ¬ (Sum.inl a : Key) = Sum.inl b := fun q => e (Sum.inl.inj q)
    rw [decide_eq_false h]
    exact (beq_eq_false_iff_ne.mpr e).symm
theorem key_rr (a b : Str) : decide ((Sum.inr a : Key) = Sum.inr b) = decide (a = b) := by
  by_cases e : a = b
  · subst e; simp
  · have h : ¬ (Sum.inr a : Key) = Sum.inr b := fun q => e (Sum.inr.inj q)
    rw [decide_eq_false h, decide_eq_false e]
theorem key_lr (a : Int) (b : Str) : decide ((Sum.inl a : Key) = Sum.inr b) = false := decide_eq_false (fun q => nomatch q)
theorem key_rl (a : Str) (b : Int) : decide ((Sum.inr a : Key) = Sum.inl b) = false := decide_eq_false (fun q => nomatch q)
def mixKind (prog : Program) (w : World) : PySem.KeyKind prog w Key where
  is := keyIs
  hash := keyH w
  inj := fun v a b ha hb => by
    rcases keyIs_shape ha with ⟨i, t, rfl, rfl⟩ | ⟨x, t, rfl, rfl⟩
    · rcases keyIs_shape hb with ⟨j, u, rfl, e⟩ | ⟨y, u, rfl, e⟩
      · injection e with e1 _; rw [e1]
      · exact nomatch e
    · rcases keyIs_shape hb with ⟨j, u, rfl, e⟩ | ⟨y, u, rfl, e⟩
      · exact nomatch e
      · injection e with e1 _; rw [e1]
  byValue := fun k v h => by
    rcases keyIs_shape h with ⟨i, t, rfl, rfl⟩ | ⟨x, t, rfl, rfl⟩ <;> rfl
  pyHash := fun hv h => by
    rcases keyIs_shape hv with ⟨i, t, rfl, rfl⟩ | ⟨x, t, rfl, rfl⟩
    · exact wpAny_pyHash_int h
    · exact wpAny_pyHash_str h
  eqBool := fun hu hv h => by
    rcases keyIs_shape hu with ⟨i, t, rfl, rfl⟩ | ⟨x, t, rfl, rfl⟩
    · rcases keyIs_shape hv with ⟨j, u, rfl, rfl⟩ | ⟨y, u, rfl, rfl⟩
      · rw [key_ll] at h; exact wpAny_eqBool_int h
      · rw [key_lr] at h; exact SeqAt.EqAt.int_str i t y u _ _ _ _ h
    · rcases keyIs_shape hv with ⟨j, u, rfl, rfl⟩ | ⟨y, u, rfl, rfl⟩
      · rw [key_rl] at h; exact SeqAt.EqAt.str_int x t j u _ _ _ _ h
      · rw [key_rr] at h; exact wpAny_eqBool_str h
  «strs» := fun k x t v h => by
    rcases keyIs_shape h with ⟨i, u, rfl, e⟩ | ⟨y, u, rfl, e⟩
    · exact nomatch e
    · injection e with e1 _
      subst e1
      cases v <;> rfl
end L2
namespace L2
open PySem PySem.Spec PyProof.Rows
inductive V where
  | non | bl (b : Bool) | int (i : Int) | str (x : Str) | byt (b : Array UInt8) | flt (b : UInt64) | ref (a : Addr) | ty (n : String)
  deriving DecidableEq
def RelV : V → Value → Prop
  | .non, u => u = Value.none
  | .bl b, u => u = Value.bool b
  | .int i, u => ∃ t, u = Value.int i t
  | .str x, u => ∃ t, u = Value.str x t
  | .byt b, u => ∃ t, u = Value.bytes b t
  | .flt b, u => ∃ t, u = Value.float b t
  | .ref a, u => u = Value.ref a
  | .ty n, u => u = Value.type n
abbrev Vals : List V → List Value → Prop := Paired RelV
theorem Vals.length {xs : List V} {us : List Value} (r : Vals xs us) : xs.length = us.length := Paired.length r
theorem Vals.get : ∀ {xs : List V} {us : List Value} {i : Nat} {x : V}, Vals xs us → xs[i]? = some x → ∃ u, us[i]? = some u ∧ RelV x u
  | _, _, _, _, .nil, e => by simp at e
  | _, _, 0, _, .cons r _, e => by simp at e; subst e; exact ⟨_, rfl, r⟩
  | _, _, i + 1, x, .cons _ t, e => by
    obtain ⟨u, h1, h2⟩ := Vals.get (i := i) (x := x) t (by simpa using e)
    exact ⟨u, by simpa using h1, h2⟩
theorem Vals.set {x : V} {u : Value} (r : RelV x u) : ∀ {xs : List V} {us : List Value} (i : Nat), Vals xs us → Vals (xs.set i x) (us.set i u)
  | _, _, _, .nil => .nil
  | _, _, 0, .cons _ t => .cons r t
  | _, _, i + 1, .cons q t => .cons q (Vals.set r i t)
theorem Vals.append : ∀ {xs ys : List V} {us ws : List Value}, Vals xs us → Vals ys ws → Vals (xs ++ ys) (us ++ ws)
  | _, _, _, _, .nil, s => s
  | _, _, _, _, .cons r t, s => .cons r (Vals.append t s)
theorem Vals.take : ∀ {xs : List V} {us : List Value} (n : Nat), Vals xs us → Vals (xs.take n) (us.take n)
  | _, _, 0, _ => .nil
  | _, _, _ + 1, .nil => .nil
  | _, _, n + 1, .cons r t => .cons r (Vals.take n t)
theorem Vals.drop : ∀ {xs : List V} {us : List Value} (n : Nat), Vals xs us → Vals (xs.drop n) (us.drop n)
  | _, _, 0, r => r
  | _, _, _ + 1, .nil => .nil
  | _, _, n + 1, .cons _ t => Vals.drop n t
def RelO : Option V → Option Value → Prop
  | some v, some u => RelV v u
  | none, none => True
  | _, _ => False
def KV {κ : Type} : List (κ × V) → List (κ × Value) → Prop := Paired fun (p : κ × V) (q : κ × Value) => p.1 = q.1 ∧ RelV p.2 q.2
inductive HO where
  /-- a list -/
  | lst (xs : List V)
  /-- a tuple (never changes) -/
  | tup (xs : List V)
  /-- a dict whose keys are ints and texts; one whose keys are tuples of ints and texts (the empty one is both) -/
  | dK (kvs : List (Key × V)) | dT (kvs : List (List Key × V))
  /-- a set of ints: its members, its size -/
  | set (S : Int → Bool) (n : Nat)
  /-- an instance of the class at C, its dict at dx, its attributes -/
  | ins (C dx : Addr) (fs : List (Str × V))
  /-- the dict of the instance at x -/
  | own (x : Addr)
  /-- the dict of an exception -/
  | xd (fs : List (Str × V))
  /-- a bound method, f of x -/
  | met (f x : Addr)
  /-- a range object lo, lo + 1, .. below hi -/
  | rng (lo hi : Int)
  /-- a thing that is known to the object (the script; a dict while a loop walks it): read, never written while it is so -/
  | frz (o : Obj) (u : HO)
  /-- a code object's table -/
  | tbl (ps : Array Value)
  /-- any other thing, by what is true of its one object (a def of one's own: SetO a S n := HO.ext fun h => ..) -/
  | ext (φ : Heap → Prop)
abbrev Hp := Addr → Option HO
def upd (H : Hp) (a : Addr) (o : HO) : Hp := fun b => if b = a then some o else H b
theorem upd_same {H : Hp} {a : Addr} {o : HO} : upd H a o a = some o := by unfold upd; rw [if_pos rfl]
theorem upd_ne {H : Hp} {a b : Addr} {o : HO} (h : b ≠ a) : upd H a o b = H b := by unfold upd; rw [if_neg h]
theorem ne_of {H : Hp} {a b : Addr} {o u : HO} (h : H a = some o) (h' : H b = some u) (d : o ≠ u) : a ≠ b := by
  intro e; subst e; rw [h] at h'; exact d (Option.some.inj h')
theorem ne_of_none {H : Hp} {a b : Addr} {o : HO} (h : H a = some o) (h' : H b = none) : a ≠ b := by
  intro e; subst e; rw [h] at h'; cases h'
section
variable (P : Program) (w : World)
def ObjOk (H : Hp) (h : Heap) (a : Addr) : HO → Prop
  | .lst xs => xs.length ≤ sizeLine ∧ ∃ (its : List Value) (n : Nat), Vals xs its ∧ h.get? a = some { cls := .type "list", data := .seq its.toArray n }
  | .tup xs => xs.length ≤ sizeLine ∧ ∃ its : List Value, Vals xs its ∧ IsTup h a its.toArray
  | .dK kvs => kvs.length ≤ sizeLine ∧ (a == sysModules) = false ∧ ∃ vs, KV kvs vs ∧ h.DictOf (mixKind P w) a vs
  | .dT _ => False
  | .set S n => h.SetOf (intKind P w) a S n
  | .ins C dx fs => H dx = some (.own a) ∧ fs.length ≤ 1000 ∧ dx ≠ a ∧ h.get? a = some (PySem.W.instObj C dx) ∧
      ∃ mA, h.Ns1 dx mA ∧ (∀ f, RelO (fs.lookup f) (mA f)) ∧ PySem.Within mA (fs.map (·.1))
  | .own _ => ∃ o, h.get? a = some o
  | .xd fs => ∃ mA, h.Ns1 a mA ∧ ∀ f, RelO (fs.lookup f) (mA f)
  | .rng lo hi => ∃ t u v, h.get? a = some { cls := .type "range", data := .fields #[.int lo t, .int hi u, .int 1 v] }
  | .frz o u => h.get? a = some o ∧ ObjOk H h a u
  | .tbl ps => h.get? a = some { cls := .none, data := .fields ps }
  | .met f x => h.get? a = some (PySem.W.methodObj (.ref f) (.ref x))
  | .ext φ => φ h ∧ (∃ o, h.get? a = some o) ∧ ∀ h1 h2 : Heap, φ h1 → (∀ o, h1.get? a = some o → h2.get? a = some o) → φ h2
def HOk (H : Hp) (h : Heap) : Prop := ∀ a o, H a = some o → ObjOk P w H h a o
end
section
variable {P : Program} {w : World} {H H' : Hp} {h h' : Heap} {a : Addr} {o : HO}
theorem ObjOk.lt (x : ObjOk P w H h a o) : a < h.objs.size := by
  cases o with
  | lst xs => obtain ⟨_, _, _, _, e⟩ := x; exact Heap.lt_size e
  | tup xs => obtain ⟨_, _, _, p⟩ := x; exact p.lt
  | dK kvs => obtain ⟨_, _, _, _, o, _, _, e, _⟩ := x; exact Heap.lt_size e
  | dT kvs => exact False.elim x
  | set S n => obtain ⟨o, _, _, _, e, _⟩ := x; exact Heap.lt_size e
  | ins C dx fs => obtain ⟨_, _, _, e, _⟩ := x; exact Heap.lt_size e
  | own y => obtain ⟨_, e⟩ := x; exact Heap.lt_size e
  | xd fs => obtain ⟨_, ⟨_, _, _, e, _⟩, _⟩ := x; exact Heap.lt_size e
  | rng lo hi => obtain ⟨_, _, _, e⟩ := x; exact Heap.lt_size e
  | frz ob u => obtain ⟨e, _⟩ := x; exact Heap.lt_size e
  | tbl ps => exact Heap.lt_size (show h.get? a = some _ from x)
  | met f y => exact Heap.lt_size (show h.get? a = some _ from x)
  | ext φ => obtain ⟨_, ⟨_, e⟩, _⟩ := x; exact Heap.lt_size e
theorem ObjOk.stay (x : ObjOk P w H h a o) (k : ∀ b u, (b = a ∨ H b = some (.own a)) → h.get? b = some u → h'.get? b = some u)
    (ho : ∀ b, H b = some (.own a) → H' b = some (.own a)) (ht : ∀ b xs, H b = some (.tup xs) → H' b = some (.tup xs)) : ObjOk P w H' h' a o := by
  induction o with
  | lst xs => obtain ⟨z, its, n, r, e⟩ := x; exact ⟨z, its, n, r, k _ _ (.inl rfl) e⟩
  | tup xs => obtain ⟨z, its, r, ob, e, c⟩ := x; exact ⟨z, its, r, ob, k _ _ (.inl rfl) e, c⟩
  | dK kvs => obtain ⟨z, y, vs, r, ob, es, ep, e, c⟩ := x; exact ⟨z, y, vs, r, ob, es, ep, k _ _ (.inl rfl) e, c⟩
  | dT kvs => exact False.elim x
  | set S n => obtain ⟨ob, es, ep, t, e, c⟩ := x; exact ⟨ob, es, ep, t, k _ _ (.inl rfl) e, c⟩
  | ins C dx fs =>
    obtain ⟨d, z, ne, e, mA, ⟨od, es, ep, e2, c⟩, r⟩ := x
    exact ⟨ho _ d, z, ne, k _ _ (.inl rfl) e, mA, ⟨od, es, ep, k _ _ (.inr d) e2, c⟩, r⟩
  | own y => obtain ⟨ob, e⟩ := x; exact ⟨ob, k _ _ (.inl rfl) e⟩
  | xd fs => obtain ⟨mA, ⟨od, es, ep, e, c⟩, r⟩ := x; exact ⟨mA, ⟨od, es, ep, k _ _ (.inl rfl) e, c⟩, r⟩
  | rng lo hi => obtain ⟨t, u, v, e⟩ := x; exact ⟨t, u, v, k _ _ (.inl rfl) e⟩
  | frz ob u ih => obtain ⟨e, q⟩ := x; exact ⟨k _ _ (.inl rfl) e, ih q⟩
  | tbl ps =>
    have e : h.get? a = some { cls := .none, data := .fields ps } := x
    show h'.get? a = some { cls := .none, data := .fields ps }
    exact k a _ (.inl rfl) e
  | met f y =>
    have e : h.get? a = some (PySem.W.methodObj (.ref f) (.ref y)) := x
    show h'.get? a = some (PySem.W.methodObj (.ref f) (.ref y))
    exact k a _ (.inl rfl) e
  | ext φ => obtain ⟨p, ⟨o, e⟩, st⟩ := x; exact ⟨st _ _ p fun o q => k _ _ (.inl rfl) q, ⟨o, k _ _ (.inl rfl) e⟩, st⟩
theorem HOk.lt (x : HOk P w H h) (e : H a = some o) : a < h.objs.size := (x a o e).lt
theorem HOk.fresh (x : HOk P w H h) (e : h.objs.size ≤ a) : H a = none := by
  cases q : H a with
  | none => rfl
  | some u => exact absurd (Nat.lt_of_lt_of_le (x.lt q) e) (Nat.lt_irrefl _)
theorem HOk.kept (x : HOk P w H h) (k : ∀ b u, h.get? b = some u → h'.get? b = some u) : HOk P w H h' := fun a o e =>
  (x a o e).stay (fun b u _ q => k b u q) (fun _ q => q) fun _ _ q => q
theorem HOk.laid (x : HOk P w H h) (k : ∀ b u, h.get? b = some u → h'.get? b = some u) (hp : h.objs.size ≤ a) (new : ObjOk P w (upd H a o) h' a o) : HOk P w (upd H a o) h' := fun b u e => by
  have hn := x.fresh hp
  by_cases hb : b = a
  · subst hb; rw [upd_same] at e; cases e; exact new
  · rw [upd_ne hb] at e
    exact (x b u e).stay (fun c v _ q => k c v q) (fun c q => by rw [upd_ne (ne_of_none q hn)]; exact q) fun c xs q => by rw [upd_ne (ne_of_none q hn)]; exact q
end
def Rd (H : Hp) (a : Addr) (u : HO) : Prop := H a = some u ∨ ∃ o, H a = some (.frz o u)
theorem Rd.ok {P : Program} {w : World} {H : Hp} {h : Heap} {a : Addr} {u : HO} (r : Rd H a u) (x : HOk P w H h) : ObjOk P w H h a u := by
  rcases r with r | ⟨o, r⟩
  · exact x a u r
  · obtain ⟨_, q⟩ := x a _ r
    exact q
def Mut : Option HO → Prop
  | some (.lst _) => True
  | some (.dK _) => True
  | some (.dT _) => True
  | some (.set _ _) => True
  | some (.ins _ _ _) => True
  | some (.ext _) => True
  | _ => False
section
variable {P : Program} {w : World} {H : Hp} {h h' : Heap} {x e : Addr} {o' : HO}
theorem HOk.write (ok : HOk P w H h) (mu : Mut (H x)) (he : e = x ∨ H e = some (.own x)) (k : ∀ b u, b ≠ e → h.get? b = some u → h'.get? b = some u) (heo : ∃ u, h'.get? e = some u)
    (new : ObjOk P w (upd H x o') h' x o') : HOk P w (upd H x o') h' := fun b u q => by
  have nown : ∀ c y, H c = some (.own y) → c ≠ x := fun c y r z => by subst z; rw [r] at mu; exact mu
  have ntup : ∀ c xs, H c = some (.tup xs) → c ≠ x := fun c xs r z => by subst z; rw [r] at mu; exact mu
  by_cases hb : b = x
  · subst hb; rw [upd_same] at q; cases q; exact new
  · rw [upd_ne hb] at q
    by_cases hbe : b = e
    · have q' : H b = some (.own x) := by
        rcases he with z | z
        · exact absurd (hbe.trans z) hb
        · rw [hbe]; exact z
      rw [q] at q'; cases q'
      obtain ⟨v, hv⟩ := heo
      exact ⟨v, by rw [hbe]; exact hv⟩
    · refine (ok b u q).stay (fun c v hc r => k c v ?_ r) (fun c r => by rw [upd_ne (nown c b r)]; exact r) fun c xs r => by rw [upd_ne (ntup c xs r)]; exact r
      rcases hc with rfl | hc
      · exact hbe
      · rintro rfl
        rcases he with z | z
        · exact nown c b hc z
        · rw [hc] at z; cases z; exact hb rfl
end
structure Un (fs ex : List Addr) (H H' : Hp) (h h' : Heap) : Prop where
  keep : ∀ b o, h.get? b = some o → H b = none → b ∉ fs → b ∉ ex → h'.get? b = some o
  slot : ∀ b o, h.get? b = some o → H b = none → b ∈ fs → b ∉ ex → ∃ sl, h'.get? b = some { o with slots := sl }
  free : ∀ b o, h.get? b = some o → H b = none → b ∉ ex → H' b = none
  there : ∀ b o, h.get? b = some o → b ∉ ex → ∃ o', h'.get? b = some o'
  tups : ∀ b xs, H b = some (.tup xs) → H' b = some (.tup xs)
  frzs : ∀ b o u, H b = some (.frz o u) → H' b = some (.frz o u)
  tbls : ∀ b ps, H b = some (.tbl ps) → ∃ more, H' b = some (.tbl (ps ++ more))
section
variable {fs fs' ex ex' : List Addr} {H H1 H2 : Hp} {h h1 h2 h' : Heap} {a x e : Addr} {o : HO}
theorem Un.any (u : Un fs ex H H1 h h1) {b : Addr} {ob : Obj} (q : h.get? b = some ob) (n : H b = none) (hx : b ∉ ex) : ∃ sl, h1.get? b = some { ob with slots := sl } := by
  by_cases hb : b ∈ fs
  · exact u.slot b ob q n hb hx
  · exact ⟨ob.slots, u.keep b ob q n hb hx⟩
theorem Un.kept (k : ∀ b u, h.get? b = some u → h'.get? b = some u) : Un fs ex H H h h' :=
  ⟨fun b ob q _ _ _ => k b ob q, fun b ob q _ _ _ => ⟨ob.slots, k b ob q⟩, fun _ _ _ n _ => n, fun b ob q _ => ⟨ob, k b ob q⟩, fun _ _ q => q, fun _ _ _ q => q, fun _ ps q => ⟨#[], by rw [q]; simp⟩⟩
theorem Un.refl : Un fs ex H H h h := Un.kept fun _ _ q => q
theorem Un.laid (k : ∀ b u, h.get? b = some u → h'.get? b = some u) (hp : h.objs.size ≤ a) (hn : H a = none) : Un fs ex H (upd H a o) h h' where
  keep := fun b u q _ _ _ => k b u q
  slot := fun b u q _ _ _ => ⟨u.slots, k b u q⟩
  free := fun b u q n _ => by rw [upd_ne (Nat.ne_of_lt (Nat.lt_of_lt_of_le (Heap.lt_size q) hp))]; exact n
  there := fun b u q _ => ⟨u, k b u q⟩
  tups := fun b xs q => by rw [upd_ne (ne_of_none q hn)]; exact q
  frzs := fun b u xs q => by rw [upd_ne (ne_of_none q hn)]; exact q
  tbls := fun b ps q => ⟨#[], by rw [upd_ne (ne_of_none q hn), q]; simp⟩
theorem Un.write (mu : Mut (H x)) (he : e = x ∨ H e = some (.own x)) (k : ∀ b u, b ≠ e → h.get? b = some u → h'.get? b = some u) (heo : ∃ u, h'.get? e = some u) : Un fs ex H (upd H x o) h h' := by
  have hx : ∀ b, H b = none → b ≠ x := fun b n z => by subst z; rw [n] at mu; exact mu
  have hb : ∀ b, H b = none → b ≠ e := fun b n z => by
    subst z
    rcases he with r | r
    · exact hx b n r
    · rw [n] at r; cases r
  have hm : ∀ b u, H b = some u → ¬ Mut (some u) → b ≠ x := fun b u q nm z => by subst z; rw [q] at mu; exact nm mu
  refine ⟨fun b u q n _ _ => k b u (hb b n) q, fun b u q n _ _ => ⟨u.slots, k b u (hb b n) q⟩, fun b u q n _ => by rw [upd_ne (hx b n)]; exact n, fun b u q _ => ?_,
    fun b xs q => by rw [upd_ne (hm b _ q fun z => z)]; exact q, fun b u xs q => by rw [upd_ne (hm b _ q fun z => z)]; exact q, fun b ps q => ⟨#[], by rw [upd_ne (hm b _ q fun z => z), q]; simp⟩⟩
  by_cases hbe : b = e
  · subst hbe; exact heo
  · exact ⟨u, k b u hbe q⟩
end
def trk (h : Heap) (H : Hp) : List Addr := (List.range h.objs.size).filter fun a => (H a).isSome
def hidT (h : Heap) (H : Hp) : Heap := PySem.W.hideAll h (trk h H)
theorem hidT_size (h : Heap) (H : Hp) : (hidT h H).objs.size = h.objs.size := PySem.W.hideAll_size _ _
theorem hidT_get {h : Heap} {H : Hp} {b : Addr} {o : Obj} (e : h.get? b = some o) (n : H b = none) : (hidT h H).get? b = some o :=
  PySem.W.hideAll_get _ e fun hm => by
    have q : (H b).isSome = true := (List.mem_filter.mp hm).2
    rw [n] at q; simp at q
theorem of_hidT {h : Heap} {H : Hp} {b : Addr} {o : Obj} (e : (hidT h H).get? b = some o) : h.get? b = some o ∧ H b = none := by
  have e' : h.get? b = some o := PySem.W.of_hideAll (trk h H) e
  refine ⟨e', ?_⟩
  cases q : H b with
  | none => rfl
  | some x =>
    have hm : b ∈ trk h H := List.mem_filter.mpr ⟨List.mem_range.mpr (Heap.lt_size e'), by simp [q]⟩
    have z : (hidT h H).get? b = none := PySem.W.hideAll_none (trk h H) hm
    rw [z] at e; cases e
end L2
namespace L2
open PySem PySem.Spec PyProof.Rows
structure Mod (K : PySem.W.Frag) (mg : Str → Option Value) (base : Heap) : Prop where
  kin : K.In base
  glob : base.Ns mainGlobals mg
  blt : ∃ mb, base.Ns builtinsNs mb ∧ ∀ x : Str, x ≠ "__name__" → mb x = bootBuiltins x
  nolimit : base.NoLimit
structure Cx where
  prog : Program
  w : World
  K : PySem.W.Frag
  mg : Str → Option Value
  base : Heap
  A : Around
  N : List Str
  s₀ : Shared
  H₀ : Hp
  env : Env
  outer : List Env
  stack : List Env
  ex : List Addr
  fn : Str → Bool
  calm : Bool
  pn : List (Addr × Obj)
  xe : Value → Shared → Prop
def frs (l : List Env) : List Addr := l.filterMap (·.frame)
abbrev Cx.fs (X : Cx) : List Addr := frs X.outer
def Vis (sc : Scope) (x : Str) : Prop := sc.names.lookup x = some .local ∨ sc.names.lookup x = some .cell ∨ sc.names.lookup x = some .free
def Loc (sc : Scope) (x : Str) : Prop := sc.names.lookup x = some .local ∨ sc.names.lookup x = some .cell
def Look (env : Env) (h : Heap) (m : Str → Option Value) (x : Str) (u : Value) : Prop :=
  (env.kindOf x = some .local ∧ m x = some u) ∨ ((env.kindOf x = some .cell ∨ env.kindOf x = some .free) ∧ ∃ c, env.cells.lookup x = some c ∧ h.IsCell c (some u))
structure Cx.Ok (X : Cx) : Prop where
  mod : Mod X.K X.mg X.base
  kind : X.env.scope.kind = .function
  glob : X.env.globals = mainGlobals
  blt : X.env.builtins = builtinsNs
  above : X.s₀.heap.objs.size ≤ X.env.locals
  inj : ∀ x y c, X.env.cells.lookup x = some c → X.env.cells.lookup y = some c → x = y
  has : ∀ x, (X.env.kindOf x = some .cell ∨ X.env.kindOf x = some .free) → ∃ c, X.env.cells.lookup x = some c
  cab : ∀ x c, X.fn x = true → X.env.cells.lookup x = some c → X.s₀.heap.objs.size ≤ c
  hd : X.calm = true → X.A.handled = none
  frames : X.A.frames = some X.stack
  stk : X.stack = X.outer ∨ (X.stack = X.env :: X.outer ∧ X.env.frame = some X.env.locals)
  exf : ∀ b ∈ X.ex, b ≠ X.env.locals ∧ ∀ x c, X.env.cells.lookup x = some c → c ≠ b
  bs : ∀ b o, X.base.get? b = some o → X.s₀.heap.get? b = some o ∧ X.H₀ b = none
  bsz : X.base.objs.size ≤ X.s₀.heap.objs.size
  noex : ∀ b o, X.base.get? b = some o → b ∉ X.ex
  exfs : ∀ b ∈ X.ex, b ∉ X.fs
  funs : X.s₀.heap.FunFrames X.base X.outer
  frf : ∀ b ∈ X.fs, X.H₀ b = none
structure Inv (X : Cx) (pins : List (Addr × Obj)) (σ : List (Option V)) (H : Hp) (s : Shared) : Prop where
  ok : X.Ok
  os : s.os = X.s₀.os
  bare : AllBare s.gens
  base : Un X.fs X.ex X.H₀ H X.s₀.heap s.heap
  loc : ∃ m, s.heap.Ns X.env.locals m ∧ ∀ (i : Nat) (x : Str) (v : V), X.N[i]? = some x → σ[i]? = some (some v) → Vis X.env.scope x → ∃ u, RelV v u ∧ Look X.env s.heap m x u
  cell : ∀ x c, X.env.cells.lookup x = some c → ∃ v, s.heap.IsCell c v
  free : H X.env.locals = none
  freeC : ∀ x c, X.env.cells.lookup x = some c → H c = none
  pin : ∀ p ∈ X.pn ++ pins, s.heap.get? p.1 = some p.2 ∧ H p.1 = none ∧ p.1 ≠ X.env.locals ∧ p.1 ∉ X.fs ∧ ∀ v, p.2.data ≠ .cell v
  hok : HOk X.prog X.w H s.heap
  len : σ.length = X.N.length
section
variable {X : Cx} {pins : List (Addr × Obj)} {σ : List (Option V)} {H H' : Hp} {s : Shared} {h' : Heap}
theorem Cx.Ok.nofr (ok : X.Ok) {b : Addr} {o : Obj} (e : X.base.get? b = some o) : b ∉ X.fs := fun hb => by
  have := (ok.funs.mem hb).1
  rw [e] at this; cases this
theorem Inv.bs (I : Inv X pins σ H s) : ∀ b o, X.base.get? b = some o → s.heap.get? b = some o ∧ H b = none := fun b o e =>
  ⟨I.base.keep b o (I.ok.bs b o e).1 (I.ok.bs b o e).2 (I.ok.nofr e) (I.ok.noex b o e), I.base.free b o (I.ok.bs b o e).1 (I.ok.bs b o e).2 (I.ok.noex b o e)⟩
theorem Inv.bk (I : Inv X pins σ H s) : ∀ b o, X.base.get? b = some o → s.heap.get? b = some o := fun b o e => (I.bs b o e).1
theorem Inv.mod (I : Inv X pins σ H s) : Mod X.K X.mg X.base := I.ok.mod
theorem Inv.kIn (I : Inv X pins σ H s) : X.K.In s.heap := I.ok.mod.kin.keeps I.bk
theorem Inv.lt (I : Inv X pins σ H s) : X.env.locals < s.heap.objs.size := let ⟨_, hn, _⟩ := I.loc; hn.lt
theorem Inv.sz (I : Inv X pins σ H s) : X.s₀.heap.objs.size ≤ s.heap.objs.size := Nat.le_trans I.ok.above (Nat.le_of_lt I.lt)
theorem Inv.nofs (I : Inv X pins σ H s) {a : Addr} (h : s.heap.objs.size ≤ a) : a ∉ X.fs := fun hb => by
  obtain ⟨_, o, ho, _⟩ := I.ok.funs.mem hb
  exact absurd (Nat.lt_of_lt_of_le (Heap.lt_size ho) (Nat.le_trans I.sz h)) (Nat.lt_irrefl _)
theorem Inv.cne (I : Inv X pins σ H s) : ∀ x c, X.env.cells.lookup x = some c → c ≠ X.env.locals := fun x c e z => by
  obtain ⟨v, o, ho, hd⟩ := I.cell x c e
  obtain ⟨m, ⟨o', es, ep, ho', hd', _⟩, _⟩ := I.loc
  rw [z, ho'] at ho; cases ho; rw [hd'] at hd; cases hd
theorem Inv.funs (I : Inv X pins σ H s) : s.heap.FunFrames X.base X.outer := by
  have all : ∀ (l : List Env), (∀ b ∈ frs l, b ∈ X.fs) → X.s₀.heap.FunFrames X.base l → s.heap.FunFrames X.base l := by
    intro l
    induction l with
    | nil => intro _ _; trivial
    | cons env r ih =>
      intro hs hl
      obtain ⟨hk, ⟨L, o, hf, hn, ho, hd⟩, hr⟩ := hl
      have hL : L ∈ X.fs := hs L (by unfold frs; rw [List.filterMap_cons, hf]; exact List.mem_cons_self)
      obtain ⟨sl, e⟩ := I.base.slot L o ho (I.ok.frf L hL) hL fun z => I.ok.exfs L z hL
      exact ⟨hk, ⟨L, _, hf, hn, e, hd⟩, ih (fun b hb => hs b (by unfold frs; rw [List.filterMap_cons, hf]; exact List.mem_cons_of_mem _ hb)) hr⟩
  exact all X.outer (fun _ hb => hb) I.ok.funs
theorem Inv.stack (I : Inv X pins σ H s) : s.heap.FunFrames X.base X.stack := by
  rcases I.ok.stk with e | ⟨e, hf⟩
  · rw [e]; exact I.funs
  · rw [e]
    obtain ⟨m, hn, _⟩ := I.loc
    refine .cons (by rw [I.ok.kind]; decide) hf hn ?_ I.funs
    exact Heap.get?_none_of_le (Nat.le_trans I.ok.bsz I.ok.above)
theorem Inv.stkSub (I : Inv X pins σ H s) : ∀ b ∈ frs X.stack, b ∈ X.env.locals :: X.fs := fun b hb => by
  rcases I.ok.stk with e | ⟨e, hf⟩
  · rw [e] at hb; exact List.mem_cons_of_mem _ hb
  · rw [e] at hb
    unfold frs at hb
    rw [List.filterMap_cons, hf] at hb
    exact hb
theorem Inv.stkFree (I : Inv X pins σ H s) : ∀ b ∈ frs X.stack, H b = none := fun b hb => by
  rcases List.mem_cons.mp (I.stkSub b hb) with e | hb
  · rw [e]; exact I.free
  · obtain ⟨_, o, ho, _⟩ := I.ok.funs.mem hb
    exact I.base.free b o ho (I.ok.frf b hb) fun z => I.ok.exfs b z hb
theorem Inv.step {g' : Array GenState} {t' : Nat} {d' : Drawn} {ch : List Addr} (I : Inv X pins σ H s)
    (hch : ∀ b ∈ ch, (b ∈ X.ex ∨ X.s₀.heap.objs.size ≤ b) ∧ b ≠ X.env.locals ∧ (∀ x c, X.env.cells.lookup x = some c → c ≠ b) ∧ ∀ p ∈ X.pn ++ pins, p.1 ≠ b)
    (keep : ∀ b o, b ≠ X.env.locals → b ∉ X.fs → b ∉ ch → s.heap.get? b = some o → H b = none → h'.get? b = some o)
    (slot : ∀ b o, b ≠ X.env.locals → b ∈ X.fs → b ∉ ch → s.heap.get? b = some o → H b = none → ∃ sl, h'.get? b = some { o with slots := sl }) (free : ∀ b o, b ∉ ch → s.heap.get? b = some o → H b = none → H' b = none)
    (there : ∀ b o, b ∉ ch → s.heap.get? b = some o → ∃ o', h'.get? b = some o')
    (tups : ∀ b xs, H b = some (.tup xs) → H' b = some (.tup xs)) (frzs : ∀ b o u, H b = some (.frz o u) → H' b = some (.frz o u)) (tbls : ∀ b ps, H b = some (.tbl ps) → ∃ more, H' b = some (.tbl (ps ++ more)))
    (ns : ∀ m, s.heap.Ns X.env.locals m → h'.Ns X.env.locals m) (hok : HOk X.prog X.w H' h') (hg : AllBare g') :
    Inv X pins σ H' { s with heap := h', gens := g', drawn := d', toks := t' } := by
  have neL : ∀ b o, X.s₀.heap.get? b = some o → b ≠ X.env.locals := fun b o e => Nat.ne_of_lt (Nat.lt_of_lt_of_le (Heap.lt_size e) I.ok.above)
  have neC : ∀ b o, X.s₀.heap.get? b = some o → b ∉ X.ex → b ∉ ch := fun b o e hx hb => by
    rcases (hch b hb).1 with z | z
    · exact hx z
    · exact absurd (Nat.lt_of_lt_of_le (Heap.lt_size e) z) (Nat.lt_irrefl _)
  have cellK : ∀ x c, X.env.cells.lookup x = some c → ∀ v, s.heap.IsCell c v → h'.IsCell c v := fun x c e v ⟨o, ho, hd⟩ => by
    have nch : c ∉ ch := fun z => (hch c z).2.2.1 x c e rfl
    by_cases hc : c ∈ X.fs
    · obtain ⟨sl, q⟩ := slot c o (I.cne x c e) hc nch ho (I.freeC x c e)
      exact ⟨_, q, hd⟩
    · exact ⟨o, keep c o (I.cne x c e) hc nch ho (I.freeC x c e), hd⟩
  refine ⟨I.ok, I.os, hg, ⟨fun b o e n hb hx => ?_, fun b o e n hb hx => ?_, fun b o e n hx => ?_, fun b o e hx => ?_, fun b xs e => tups b xs (I.base.tups b xs e), fun b o xs e => frzs b o xs (I.base.frzs b o xs e), fun b ps e => ?_⟩, ?_, fun x c e => ?_, ?_, fun x c e => ?_, fun p hp => ?_, hok, I.len⟩
  · exact keep b o (neL b o e) hb (neC b o e hx) (I.base.keep b o e n hb hx) (I.base.free b o e n hx)
  · obtain ⟨sl, e1⟩ := I.base.slot b o e n hb hx
    obtain ⟨sl', e2⟩ := slot b _ (neL b o e) hb (neC b o e hx) e1 (I.base.free b o e n hx)
    exact ⟨sl', e2⟩
  · obtain ⟨o', e1⟩ := I.base.there b o e hx
    exact free b o' (neC b o e hx) e1 (I.base.free b o e n hx)
  · obtain ⟨o', e1⟩ := I.base.there b o e hx
    exact there b o' (neC b o e hx) e1
  · obtain ⟨m1, e1⟩ := I.base.tbls b ps e
    obtain ⟨m2, e2⟩ := tbls b _ e1
    exact ⟨m1 ++ m2, by rw [e2, Array.append_assoc]⟩
  · obtain ⟨m, hn, hl⟩ := I.loc
    refine ⟨m, ns m hn, fun i x v e1 e2 e3 => ?_⟩
    obtain ⟨u, r, l⟩ := hl i x v e1 e2 e3
    refine ⟨u, r, ?_⟩
    rcases l with l | ⟨k, c, e, z⟩
    · exact .inl l
    · exact .inr ⟨k, c, e, cellK x c e _ z⟩
  · obtain ⟨v, z⟩ := I.cell x c e
    exact ⟨v, cellK x c e v z⟩
  · obtain ⟨m, ⟨o, _, _, ho, _⟩, _⟩ := I.loc
    exact free _ o (fun z => (hch _ z).2.1 rfl) ho I.free
  · obtain ⟨v, o, ho, hd⟩ := I.cell x c e
    exact free c o (fun z => (hch c z).2.2.1 x c e rfl) ho (I.freeC x c e)
  · obtain ⟨e, n, ne, nf, d⟩ := I.pin p hp
    have nch : p.1 ∉ ch := fun z => (hch p.1 z).2.2.2 p hp rfl
    exact ⟨keep p.1 p.2 ne nf nch e n, free p.1 p.2 nch e n, ne, nf, d⟩
theorem Inv.un {t' : Nat} (I : Inv X pins σ H s) (u : Un X.fs [] H H' s.heap h') (hok : HOk X.prog X.w H' h') : Inv X pins σ H' { s with heap := h', toks := t' } := by
  obtain ⟨m, ⟨o, es, ep, ho, r⟩, _⟩ := id I.loc
  obtain ⟨sl, hL⟩ := u.any ho I.free (by simp)
  exact I.step (g' := s.gens) (d' := s.drawn) (ch := []) (fun _ z => nomatch z) (fun b o _ hb _ e n => u.keep b o e n hb (by simp)) (fun b o _ hb _ e n => u.slot b o e n hb (by simp)) (fun b o _ e n => u.free b o e n (by simp)) (fun b o _ e => u.there b o e (by simp)) u.tups u.frzs u.tbls (fun m' hm => by
    obtain ⟨o', es', ep', ho', r'⟩ := hm
    rw [ho] at ho'; cases ho'
    exact ⟨_, es', ep', hL, r'⟩) hok I.bare
theorem Inv.call {g' : Array GenState} {t' : Nat} {d' : Drawn} {ch : List Addr} (I : Inv X pins σ H s) (u : Un (frs X.stack) ch H H' s.heap h') (hok : HOk X.prog X.w H' h') (hg : AllBare g')
    (hch : ∀ b ∈ ch, (b ∈ X.ex ∨ X.s₀.heap.objs.size ≤ b) ∧ b ≠ X.env.locals ∧ (∀ x c, X.env.cells.lookup x = some c → c ≠ b) ∧ ∀ p ∈ X.pn ++ pins, p.1 ≠ b) :
    Inv X pins σ H' { s with heap := h', gens := g', drawn := d', toks := t' } := by
  obtain ⟨m, ⟨o, es, ep, ho, r⟩, _⟩ := id I.loc
  obtain ⟨sl, hL⟩ := u.any ho I.free fun z => (hch _ z).2.1 rfl
  exact I.step (ch := ch) hch (fun b o hL hb hc e n => u.keep b o e n (fun z => (List.mem_cons.mp (I.stkSub b z)).elim hL hb) hc) (fun b o _ _ hc e n => u.any e n hc) (fun b o hc e n => u.free b o e n hc) (fun b o hc e => u.there b o e hc) u.tups u.frzs u.tbls (fun m' hm => by
    obtain ⟨o', es', ep', ho', r'⟩ := hm
    rw [ho] at ho'; cases ho'
    exact ⟨_, es', ep', hL, r'⟩) hok hg
theorem Inv.turned {t' : Nat} {it : Addr} (I : Inv X pins σ H s) (k : ∀ b o, b ≠ it → s.heap.get? b = some o → h'.get? b = some o) (hn : H it = none) (hL : it ≠ X.env.locals)
    (h1 : it ∈ X.ex ∨ X.s₀.heap.objs.size ≤ it) (h2 : ∀ x c, X.env.cells.lookup x = some c → c ≠ it) (h3 : ∀ p ∈ X.pn ++ pins, p.1 ≠ it) : Inv X pins σ H { s with heap := h', toks := t' } := by
  have nit : ∀ b u, H b = some u → b ≠ it := fun b u e z => by rw [z, hn] at e; cases e
  refine I.step (g' := s.gens) (d' := s.drawn) (ch := [it]) (fun b hb => ?_) (fun b o _ _ hc e _ => k b o (fun z => hc (by simp [z])) e) (fun b o _ _ hc e _ => ⟨o.slots, k b o (fun z => hc (by simp [z])) e⟩) (fun _ _ _ _ n => n)
    (fun b o hc e => ⟨o, k b o (fun z => hc (by simp [z])) e⟩) (fun _ _ e => e) (fun _ _ _ e => e) (fun b ps e => ⟨#[], by rw [e]; simp⟩) (fun m hm => ?_) (fun b u e => ?_) I.bare
  · have e : b = it := by simpa using hb
    subst e
    exact ⟨h1, hL, h2, h3⟩
  · obtain ⟨o, es, ep, ho, r⟩ := hm
    exact ⟨o, es, ep, k _ o (Ne.symm hL) ho, r⟩
  · refine (I.hok b u e).stay (fun c v hc q => k c v ?_ q) (fun _ q => q) fun _ _ q => q
    rcases hc with z | z
    · rw [z]; exact nit b u e
    · exact nit c _ z
theorem Inv.tok (I : Inv X pins σ H s) (t : Nat) : Inv X pins σ H { s with toks := t } := I.un (h' := s.heap) (t' := t) Un.refl I.hok
theorem Inv.kept {t' : Nat} (I : Inv X pins σ H s) (k : ∀ b u, s.heap.get? b = some u → h'.get? b = some u) : Inv X pins σ H { s with heap := h', toks := t' } := I.un (Un.kept k) (I.hok.kept k)
theorem Inv.laid {a : Addr} {o : HO} {t' : Nat} (I : Inv X pins σ H s) (k : ∀ b u, s.heap.get? b = some u → h'.get? b = some u) (hp : s.heap.objs.size ≤ a) (new : ObjOk X.prog X.w (upd H a o) h' a o) :
    Inv X pins σ (upd H a o) { s with heap := h', toks := t' } := I.un (Un.laid k hp (I.hok.fresh hp)) (I.hok.laid k hp new)
theorem Inv.write {x e : Addr} {o : HO} {t' : Nat} (I : Inv X pins σ H s) (mu : Mut (H x)) (he : e = x ∨ H e = some (.own x)) (k : ∀ b u, b ≠ e → s.heap.get? b = some u → h'.get? b = some u) (heo : ∃ u, h'.get? e = some u)
    (new : ObjOk X.prog X.w (upd H x o) h' x o) : Inv X pins σ (upd H x o) { s with heap := h', toks := t' } := I.un (Un.write mu he k heo) (I.hok.write mu he k heo new)
theorem Inv.pins_of {pins' : List (Addr × Obj)} (I : Inv X pins σ H s) (h : ∀ p ∈ pins', s.heap.get? p.1 = some p.2 ∧ H p.1 = none ∧ p.1 ≠ X.env.locals ∧ p.1 ∉ X.fs ∧ ∀ v, p.2.data ≠ .cell v) : Inv X pins' σ H s :=
  ⟨I.ok, I.os, I.bare, I.base, I.loc, I.cell, I.free, I.freeC, fun p hp => (List.mem_append.mp hp).elim (fun z => I.pin p (List.mem_append_left _ z)) (h p), I.hok, I.len⟩
theorem nodup_ix {N : List Str} (hN : N.Nodup) {i j : Nat} {x : Str} (a : N[i]? = some x) (b : N[j]? = some x) : i = j := by
  obtain ⟨h1, e1⟩ := List.getElem?_eq_some_iff.mp a
  obtain ⟨h2, e2⟩ := List.getElem?_eq_some_iff.mp b
  exact (List.getElem_inj hN).mp (e1.trans e2.symm)
theorem store_ok2 {M : Model} {A : Around} {E : Value → Shared → Prop} {i : Nat} {x : Str} {v : V} {u : Value} {Q : Unit → Shared → Prop} (I : Inv X pins σ H s) (hN : X.N.Nodup) (hi : X.N[i]? = some x) (hx : Loc X.env.scope x) (r : RelV v u)
    (h : ∀ s', Inv X pins (σ.set i (some v)) H s' → (∃ a, Heap.SameBut a s.heap s'.heap ∧ (a = X.env.locals ∨ X.env.cells.lookup x = some a)) → Q () s') (hf : X.fn x = true ∨ X.env.scope.names.lookup x = some .local := by first | exact .inl rfl | exact .inr rfl | assumption) : wpAny M A (storeName X.env x u) Q E s := by
  obtain ⟨m, hn, hl⟩ := id I.loc
  have hcls : (X.env.scope.kind == .class || (X.env.scope.kind == .module && X.env.locals != X.env.globals)) = false := by rw [I.ok.kind]; rfl
  have hiσ : i < σ.length := by rw [I.len]; exact (List.getElem?_eq_some_iff.mp hi).1
  have cne := I.cne
  have tracked : ∀ {a : Addr} {h' : Heap}, (∃ o, s.heap.get? a = some o ∧ H a = none) → Heap.SameBut a s.heap h' → HOk X.prog X.w H h' := fun {a h'} ha hs b ob e => by
    obtain ⟨_, _, hfree⟩ := ha
    refine (I.hok b ob e).stay (fun c w' hc q => (hs.2 c ?_).trans q) (fun _ q => q) fun _ _ q => q
    rintro rfl
    rcases hc with rfl | hc
    · rw [hfree] at e; cases e
    · rw [hfree] at hc; cases hc
  rcases hx with hk | hk
  · refine wpAny_storeName_local hk hn (fun h' hn' hs => ?_) hcls
    obtain ⟨oL, _, _, hoL, _⟩ := id hn
    refine h _ ⟨I.ok, I.os, I.bare, ⟨fun b o e n hb hx => ?_, fun b o e n hb hx => ?_, I.base.free, fun b o e hx => ?_, I.base.tups, I.base.frzs, I.base.tbls⟩, ⟨_, hn', fun j y v' e1 e2 e3 => ?_⟩, fun y c e => ?_, I.free, I.freeC, fun p hp => ?_, tracked ⟨oL, hoL, I.free⟩ hs, by simpa using I.len⟩ ⟨_, hs, .inl rfl⟩
    · exact (hs.2 b (Nat.ne_of_lt (Nat.lt_of_lt_of_le (Heap.lt_size e) I.ok.above))).trans (I.base.keep b o e n hb hx)
    · obtain ⟨sl, e1⟩ := I.base.slot b o e n hb hx
      exact ⟨sl, (hs.2 b (Nat.ne_of_lt (Nat.lt_of_lt_of_le (Heap.lt_size e) I.ok.above))).trans e1⟩
    · obtain ⟨o', e1⟩ := I.base.there b o e hx
      exact ⟨o', (hs.2 b (Nat.ne_of_lt (Nat.lt_of_lt_of_le (Heap.lt_size e) I.ok.above))).trans e1⟩
    · by_cases hj : j = i
      · subst hj
        rw [hi] at e1; cases e1
        rw [List.getElem?_set_self hiσ] at e2
        cases e2
        exact ⟨u, r, .inl ⟨hk, by simp⟩⟩
      · rw [List.getElem?_set_ne (Ne.symm hj)] at e2
        obtain ⟨u', r', q⟩ := hl j y v' e1 e2 e3
        refine ⟨u', r', ?_⟩
        rcases q with ⟨k, e⟩ | ⟨k, c, e, z⟩
        · refine .inl ⟨k, ?_⟩
          have : y ≠ x := fun e => hj (nodup_ix hN e1 (e ▸ hi))
          simp [this, e]
        · exact .inr ⟨k, c, e, z.sameBut hs (cne y c e)⟩
    · obtain ⟨w', z⟩ := I.cell y c e
      exact ⟨w', z.sameBut hs (cne y c e)⟩
    · obtain ⟨e, n, ne, nf, d⟩ := I.pin p hp
      exact ⟨(hs.2 p.1 ne).trans e, n, ne, nf, d⟩
  · have hfn : X.fn x = true := by
      rcases hf with z | z
      · exact z
      · rw [z] at hk; cases hk
    obtain ⟨c, hc⟩ := I.ok.has x (.inl hk)
    obtain ⟨w', z⟩ := I.cell x c hc
    refine wpAny_storeName_cell I.ok.kind hk hc z (fun h' hc' hs => ?_)
    obtain ⟨oc, hoc, hocd⟩ := id z
    refine h { s with heap := h' } ⟨I.ok, I.os, I.bare, ⟨fun b o e n hb hx => ?_, fun b o e n hb hx => ?_, I.base.free, fun b o e hx => ?_, I.base.tups, I.base.frzs, I.base.tbls⟩, ⟨m, hn.sameBut hs (Ne.symm (cne x c hc)), fun j y v' e1 e2 e3 => ?_⟩, fun y c' e => ?_, I.free, I.freeC, fun p hp => ?_, tracked ⟨oc, hoc, I.freeC x c hc⟩ hs, by simpa using I.len⟩ ⟨c, hs, .inr hc⟩
    · exact (hs.2 b (Nat.ne_of_lt (Nat.lt_of_lt_of_le (Heap.lt_size e) (I.ok.cab x c hfn hc)))).trans (I.base.keep b o e n hb hx)
    · obtain ⟨sl, e1⟩ := I.base.slot b o e n hb hx
      exact ⟨sl, (hs.2 b (Nat.ne_of_lt (Nat.lt_of_lt_of_le (Heap.lt_size e) (I.ok.cab x c hfn hc)))).trans e1⟩
    · obtain ⟨o', e1⟩ := I.base.there b o e hx
      exact ⟨o', (hs.2 b (Nat.ne_of_lt (Nat.lt_of_lt_of_le (Heap.lt_size e) (I.ok.cab x c hfn hc)))).trans e1⟩
    · by_cases hj : j = i
      · subst hj
        rw [hi] at e1; cases e1
        rw [List.getElem?_set_self hiσ] at e2
        cases e2
        exact ⟨u, r, .inr ⟨.inl hk, c, hc, hc'⟩⟩
      · rw [List.getElem?_set_ne (Ne.symm hj)] at e2
        obtain ⟨u', r', q⟩ := hl j y v' e1 e2 e3
        refine ⟨u', r', ?_⟩
        rcases q with q | ⟨k, c', e, z'⟩
        · exact .inl q
        · refine .inr ⟨k, c', e, z'.sameBut hs ?_⟩
          rintro rfl
          exact hj (nodup_ix hN e1 (I.ok.inj _ _ _ e hc ▸ hi))
    · by_cases hcc : c' = c
      · subst hcc; exact ⟨_, hc'⟩
      · obtain ⟨w2, z2⟩ := I.cell y c' e
        exact ⟨w2, z2.sameBut hs hcc⟩
    · obtain ⟨e, n, ne, nf, d⟩ := I.pin p hp
      refine ⟨(hs.2 p.1 ?_).trans e, n, ne, nf, d⟩
      intro q
      rw [q, hoc] at e
      have q' : oc = p.2 := Option.some.inj e
      exact d w' (by rw [← q']; exact hocd)
theorem store_ok {M : Model} {A : Around} {E : Value → Shared → Prop} {i : Nat} {x : Str} {v : V} {u : Value} {Q : Unit → Shared → Prop} (I : Inv X pins σ H s) (hN : X.N.Nodup) (hi : X.N[i]? = some x) (hx : Loc X.env.scope x) (r : RelV v u)
    (h : ∀ s', Inv X pins (σ.set i (some v)) H s' → Q () s') (hf : X.fn x = true ∨ X.env.scope.names.lookup x = some .local := by first | exact .inl rfl | exact .inr rfl | assumption) : wpAny M A (storeName X.env x u) Q E s :=
  store_ok2 I hN hi hx r (fun s' I' _ => h s' I') hf
theorem Inv.call' {s' : Shared} {ch : List Addr} (I : Inv X pins σ H s) (ho : s'.os = s.os) (u : Un (frs X.stack) ch H H' s.heap s'.heap) (hok : HOk X.prog X.w H' s'.heap) (hg : AllBare s'.gens)
    (hch : ∀ b ∈ ch, (b ∈ X.ex ∨ X.s₀.heap.objs.size ≤ b) ∧ b ≠ X.env.locals ∧ (∀ x c, X.env.cells.lookup x = some c → c ≠ b) ∧ ∀ p ∈ X.pn ++ pins, p.1 ≠ b) : Inv X pins σ H' s' := by
  obtain ⟨h', g', d', t', o'⟩ := s'
  have e : o' = s.os := ho
  subst e
  exact I.call (g' := g') (t' := t') (d' := d') u hok hg hch
end
abbrev XK := Value → Option Addr → Hp → Prop
abbrev St := List (Option V)
abbrev VK := V → Hp → Prop
abbrev TE := St → Hp → VK → Prop
abbrev TT := St → Hp → (Bool → Hp → Prop) → Prop
abbrev TA := St → Hp → (List V → Hp → Prop) → Prop
structure Ends where
  nx : St → Hp → Prop
  rt : VK
  bk : St → Hp → Prop := fun _ _ => False
  ct : St → Hp → Prop := fun _ _ => False
abbrev TS := Ends → St → Hp → Prop
def EP (X : Cx) (pins : List (Addr × Obj)) (σ : St) (Q : VK) (u : Value) (s' : Shared) : Prop := ∃ v H', Inv X pins σ H' s' ∧ RelV v u ∧ Q v H'
def TP (X : Cx) (pins : List (Addr × Obj)) (σ : St) (Q : Bool → Hp → Prop) (b : Bool) (s' : Shared) : Prop := ∃ H', Inv X pins σ H' s' ∧ Q b H'
def AP (X : Cx) (pins : List (Addr × Obj)) (σ : St) (Q : List V → Hp → Prop) (us : List Value) (s' : Shared) : Prop := ∃ vs H', Inv X pins σ H' s' ∧ Vals vs us ∧ Q vs H'
def SP (X : Cx) (pins : List (Addr × Obj)) (D : Ends) (f : Flow) (s' : Shared) : Prop :=
  match f with
  | .next => ∃ σ' H', Inv X pins σ' H' s' ∧ D.nx σ' H'
  | .brk => ∃ σ' H', Inv X pins σ' H' s' ∧ D.bk σ' H'
  | .cont => ∃ σ' H', Inv X pins σ' H' s' ∧ D.ct σ' H'
  | .ret u => ∃ v σ' H', Inv X pins σ' H' s' ∧ RelV v u ∧ D.rt v H'
def PE (X : Cx) (e : Expr) (t : TE) : Prop :=
  ∀ (pins : List (Addr × Obj)) (s : Shared) (σ : St) (H : Hp) (Q : VK), Inv X pins σ H s → t σ H Q → wpAny (model X.prog X.w) X.A (eval e X.env) (EP X pins σ Q) X.xe s
def PT (X : Cx) (e : Expr) (t : TT) : Prop :=
  ∀ (pins : List (Addr × Obj)) (s : Shared) (σ : St) (H : Hp) (Q : Bool → Hp → Prop), Inv X pins σ H s → t σ H Q → wpAny (model X.prog X.w) X.A (isTrue e X.env (eval e X.env)) (TP X pins σ Q) X.xe s
def PW (X : Cx) (e : Expr) (t : TT) : Prop :=
  ∀ (whole : Sem Value) (pins : List (Addr × Obj)) (s : Shared) (σ : St) (H : Hp) (Q : Bool → Hp → Prop), Inv X pins σ H s → t σ H Q → wpAny (model X.prog X.w) X.A (isTrue e X.env whole) (TP X pins σ Q) X.xe s
theorem PW.pt {X : Cx} {e : Expr} {t : TT} (h : PW X e t) : PT X e t := h _
def PA (X : Cx) (es : List Expr) (t : TA) : Prop :=
  ∀ (pos : Pos) (pins : List (Addr × Obj)) (s : Shared) (σ : St) (H : Hp) (Q : List V → Hp → Prop), Inv X pins σ H s → t σ H Q → wpAny (model X.prog X.w) X.A (spliced (backTo pos (starEach es X.env))) (AP X pins σ Q) X.xe s
def PS (X : Cx) (st : Stmt) (t : TS) : Prop :=
  ∀ (pins : List (Addr × Obj)) (s : Shared) (σ : St) (H : Hp) (D : Ends), Inv X pins σ H s → t D σ H → wpAny (model X.prog X.w) X.A (exec st X.env) (SP X pins D) X.xe s
def PSs (X : Cx) (st : List Stmt) (t : TS) : Prop :=
  ∀ (pins : List (Addr × Obj)) (s : Shared) (σ : St) (H : Hp) (D : Ends), Inv X pins σ H s → t D σ H → wpAny (model X.prog X.w) X.A (execs st X.env) (SP X pins D) X.xe s
theorem thn {α : Type} {t : Sem α} {Q Q' : α → Shared → Prop} {M : Model} {A : Around} {E : Value → Shared → Prop} {s : Shared} (h : wpAny M A t Q E s) (hQ : ∀ a s, Q a s → Q' a s) : wpAny M A t Q' E s := wpAny_mono h hQ fun _ _ x => x
end L2
namespace L2
open PySem PySem.Spec PyProof.Rows
section
variable {X : Cx}
def tVar (i : Nat) : TE := fun σ H Q => ∃ v, σ[i]? = some (some v) ∧ Q v H
def tC (v : V) : TE := fun _ H Q => Q v H
theorem pe_var {i : Nat} {x : Str} {pos : Pos} (hN : X.N[i]? = some x) (hv : Vis X.env.scope x) (hd : (x == ("__debug__" : Str)) = false := by decide) (hcd : (x == ("__classdict__" : Str)) = false := by decide) : PE X (.Name x pos) (tVar i) := by
  intro pins s σ H Q I h
  obtain ⟨v, e, h⟩ := h
  obtain ⟨m, hn, hl⟩ := I.loc
  obtain ⟨u, r, l⟩ := hl i x v hN e hv
  have fin : EP X pins σ Q u s := ⟨v, H, I, r, h⟩
  rcases l with ⟨hk, hm⟩ | ⟨hk, c, hc, hcell⟩
  · exact wpAny_Name (wpAny_loadName_local I.ok.kind hk hn hm fin) hd
  · rcases hk with hk | hk
    · exact wpAny_Name (wpAny_loadName_cell I.ok.kind hk hc hcell fin) hd
    · exact wpAny_Name (wpAny_loadName_free I.ok.kind hk hc hcell fin hcd) hd
theorem pe_int {i j pos} : PE X (.Constant (.int i) j pos) (tC (.int i)) := fun _ _ _ H _ I h => wpAny_Constant_int ⟨.int i, H, I.tok _, ⟨_, rfl⟩, h⟩
theorem pe_bl {b j pos} : PE X (.Constant (.bool b) j pos) (tC (.bl b)) := fun _ _ _ H _ I h => Constant_bool ⟨.bl b, H, I, rfl, h⟩
theorem pe_non {j pos} : PE X (.Constant .none j pos) (tC .non) := fun _ _ _ H _ I h => Constant_none ⟨.non, H, I, rfl, h⟩
theorem pe_str {x j pos} : PE X (.Constant (.str x) j pos) (tC (.str x)) := fun _ _ _ H _ I h => Calls.Constant_str ⟨.str x, H, I.tok _, ⟨_, rfl⟩, h⟩
def Gl (X : Cx) (x : Str) : Prop := X.env.kindOf x = some .globalImplicit
theorem ld_glob {E : Value → Shared → Prop} {pins : List (Addr × Obj)} {s : Shared} {σ : St} {H : Hp} {x : Str} {u : Value} {pos : Pos} {Q : Value → Shared → Prop} (I : Inv X pins σ H s) (hg : Gl X x) (hm : X.mg x = some u) (h : Q u s)
    (hd : (x == ("__debug__" : Str)) = false := by decide) : wpAny (model X.prog X.w) X.A (eval (.Name x pos) X.env) Q E s :=
  Calls.Name_function_global I.ok.kind hg (Calls.loadGlobal_global (by rw [I.ok.glob]; exact I.mod.glob.keeps I.bk) hm h) hd
theorem ld_blt {E : Value → Shared → Prop} {pins : List (Addr × Obj)} {s : Shared} {σ : St} {H : Hp} {x : Str} {u : Value} {pos : Pos} {Q : Value → Shared → Prop} (I : Inv X pins σ H s) (hg : Gl X x) (hm : X.mg x = none) (hv : bootBuiltins x = some u) (h : Q u s)
    (hn : x ≠ "__name__" := by decide) (hd : (x == ("__debug__" : Str)) = false := by decide) : wpAny (model X.prog X.w) X.A (eval (.Name x pos) X.env) Q E s := by
  obtain ⟨mb, h1, h2⟩ := I.mod.blt
  exact Calls.Name_function_global I.ok.kind hg (Calls.loadGlobal_builtin (by rw [I.ok.glob]; exact I.mod.glob.keeps I.bk) hm (by rw [I.ok.blt]; exact h1.keeps I.bk) ((h2 x hn).trans hv) h) hd
theorem pe_glob {x : Str} {v : V} {u : Value} {pos : Pos} (hg : Gl X x) (hm : X.mg x = some u) (r : RelV v u) (hd : (x == ("__debug__" : Str)) = false := by decide) : PE X (.Name x pos) (tC v) :=
  fun _ _ _ H _ I h => ld_glob I hg hm ⟨v, H, I, r, h⟩ hd
theorem pe_bltn {x : Str} {v : V} {u : Value} {pos : Pos} (hg : Gl X x) (hm : X.mg x = none) (hv : bootBuiltins x = some u) (r : RelV v u) (hn : x ≠ "__name__" := by decide) (hd : (x == ("__debug__" : Str)) = false := by decide) : PE X (.Name x pos) (tC v) :=
  fun _ _ _ H _ I h => ld_blt I hg hm hv ⟨v, H, I, r, h⟩ hn hd
variable {a b : Expr} {ta tb : TE} {pos : Pos}
def tB (t : TE) : TT := fun σ H Q => t σ H fun x H1 => ∃ c, x = .bl c ∧ Q c H1
theorem pt_val {e : Expr} {t : TE} (h : PE X e t) (he : ∀ whole, isTrue e X.env whole = (do let v ← whole; standAt e.pos; holding [v] (truthy v)) := by intro _; rfl) : PT X e (tB t) := by
  intro pins s σ H Q I hw
  refine isTrue_plain (thn (h pins s σ H _ I hw) fun v s1 ⟨x, H1, I1, r1, q1⟩ => ?_) (he _)
  obtain ⟨d, rfl, q⟩ := q1
  cases r1
  exact wpAny_truthy_bool ⟨H1, I1, q⟩
variable {tA tB' : TT} {rest : List Expr}
def tAnd (t u : TT) : TT := fun σ H Q => t σ H fun c H1 => if c = true then u σ H1 Q else Q false H1
def tOr (t u : TT) : TT := fun σ H Q => t σ H fun c H1 => if c = true then Q true H1 else u σ H1 Q
def tNot (t : TT) : TT := fun σ H Q => t σ H fun c H1 => Q (!c) H1
theorem pw_and1 (ha : PT X a tA) : PW X (.BoolOp .And [a] pos) tA := by
  intro wh pins s σ H Q I h
  refine isTrue_and (thn (ha pins s σ H Q I h) fun c s1 e => ?_)
  cases c with
  | true => exact isTrue_and_nil e
  | false => exact e
theorem pw_or1 (ha : PT X a tA) : PW X (.BoolOp .Or [a] pos) tA := by
  intro wh pins s σ H Q I h
  refine isTrue_or (thn (ha pins s σ H Q I h) fun c s1 e => ?_)
  cases c with
  | false => exact isTrue_or_nil e
  | true => exact e
theorem pw_and (ha : PT X a tA) (hb : PW X (.BoolOp .And (b :: rest) pos) tB') : PW X (.BoolOp .And (a :: b :: rest) pos) (tAnd tA tB') := by
  intro wh pins s σ H Q I h
  refine isTrue_and (thn (ha pins s σ H _ I h) fun c s1 ⟨H1, I1, q1⟩ => ?_)
  cases c with
  | true => exact hb wh pins s1 σ H1 Q I1 q1
  | false => exact ⟨H1, I1, q1⟩
theorem pw_or (ha : PT X a tA) (hb : PW X (.BoolOp .Or (b :: rest) pos) tB') : PW X (.BoolOp .Or (a :: b :: rest) pos) (tOr tA tB') := by
  intro wh pins s σ H Q I h
  refine isTrue_or (thn (ha pins s σ H _ I h) fun c s1 ⟨H1, I1, q1⟩ => ?_)
  cases c with
  | true => exact ⟨H1, I1, q1⟩
  | false => exact hb wh pins s1 σ H1 Q I1 q1
theorem pt_not (ha : PT X a tA) : PT X (.UnaryOp .Not a pos) (tNot tA) := by
  intro pins s σ H Q I h
  exact isTrue_not (ha pins s σ H (fun c H1 => Q (!c) H1) I h)
def tAndV (ta tb : TE) : TE := fun σ H Q => ta σ H fun x H1 => ∃ c, x = .bl c ∧ if c = true then tb σ H1 Q else Q (.bl false) H1
def tNotV (ta : TE) : TE := fun σ H Q => ta σ H fun x H1 => ∃ c, x = .bl c ∧ Q (.bl (!c)) H1
theorem pe_one {op} {t : TE} (h : PE X a t) : PE X (.BoolOp op [a] pos) t := fun pins s σ H Q I hw => BoolOp_one (h pins s σ H Q I hw)
theorem pe_and (ha : PE X a ta) (hb : PE X (.BoolOp .And (b :: rest) pos) tb) : PE X (.BoolOp .And (a :: b :: rest) pos) (tAndV ta tb) := by
  intro pins s σ H Q I h
  refine BoolOp_and (thn (ha pins s σ H _ I h) fun v s1 ⟨x, H1, I1, r1, q1⟩ => ?_)
  obtain ⟨c, rfl, q1⟩ := q1
  cases r1
  refine wpAny_truthy_bool ?_
  cases c with
  | true => exact hb pins s1 σ H1 Q I1 q1
  | false => exact ⟨.bl false, H1, I1, rfl, q1⟩
theorem pe_not (ha : PE X a ta) : PE X (.UnaryOp .Not a pos) (tNotV ta) := by
  intro pins s σ H Q I h
  refine UnaryOp_ (thn (ha pins s σ H _ I h) fun v s1 ⟨x, H1, I1, r1, q1⟩ => ?_)
  obtain ⟨c, rfl, q1⟩ := q1
  cases r1
  exact not_of (wpAny_truthy_bool ⟨.bl (!c), H1, I1, rfl, q1⟩)
end
end L2
namespace L2
open PySem PySem.Spec PyProof.Rows
def SqL (K : PySem.W.Frag) (H : Hp) (a : Addr) (xs : List V) : Prop :=
  Rd H a (.lst xs) ∨
    ∃ (o : Obj) (its : Array Value) (n : Nat), K.lookup a = some o ∧ o.cls = .type "list" ∧ o.dict = none ∧ o.data = .seq its n ∧ its.size ≤ sizeLine ∧ Vals xs its.toList
def SqT (K : PySem.W.Frag) (H : Hp) (a : Addr) (xs : List V) : Prop :=
  Rd H a (.tup xs) ∨
    ∃ (o : Obj) (its : Array Value) (n : Nat), K.lookup a = some o ∧ o.cls = .type "tuple" ∧ o.data = .seq its n ∧ its.size ≤ sizeLine ∧ Vals xs its.toList
def absV : Value → Option V
  | .none => some .non
  | .bool b => some (.bl b)
  | .int i _ => some (.int i)
  | .str x _ => some (.str x)
  | .bytes b _ => some (.byt b)
  | .float b _ => some (.flt b)
  | .ref a => some (.ref a)
  | .type n => some (.ty n)
  | _ => none
theorem RelV.abs {x : V} {u : Value} (r : RelV x u) : absV u = some x := by
  cases x with
  | non => cases r; rfl
  | bl _ => cases r; rfl
  | int _ => obtain ⟨t, rfl⟩ := r; rfl
  | str _ => obtain ⟨t, rfl⟩ := r; rfl
  | byt _ => obtain ⟨t, rfl⟩ := r; rfl
  | flt _ => obtain ⟨t, rfl⟩ := r; rfl
  | ref _ => cases r; rfl
  | ty _ => cases r; rfl
theorem RelV.inj {x y : V} {u : Value} (r : RelV x u) (q : RelV y u) : x = y := Option.some.inj (r.abs.symm.trans q.abs)
theorem Vals.inj : ∀ {xs ys : List V} {us : List Value}, Vals xs us → Vals ys us → xs = ys
  | _, _, _, .nil, .nil => rfl
  | _, _, _, .cons r t, .cons r' t' => by rw [r.inj r', Vals.inj t t']
section
variable {X : Cx} {pins : List (Addr × Obj)} {σ : St} {H : Hp} {s : Shared} {a : Addr} {xs ys : List V}
theorem SqL.of {K : PySem.W.Frag} (h : H a = some (.lst xs)) : SqL K H a xs := .inl (.inl h)
theorem SqT.of {K : PySem.W.Frag} (h : H a = some (.tup xs)) : SqT K H a xs := .inl (.inl h)
theorem Inv.list (I : Inv X pins σ H s) (h : SqL X.K H a xs) : ∃ its : List Value, Vals xs its ∧ PlainL s.heap a its.toArray ∧ xs.length ≤ sizeLine := by
  rcases h with h | ⟨o, its, n, hk, hc, hd, hs, hz, r⟩
  · obtain ⟨z, its, n, r, e⟩ := h.ok I.hok
    exact ⟨its, r, ⟨_, n, e, rfl, rfl, rfl⟩, z⟩
  · refine ⟨its.toList, r, ⟨o, n, I.kIn a o hk, hc, hd, by simpa using hs⟩, ?_⟩
    have e := r.length
    simp only [Array.length_toList] at e
    omega
theorem Inv.tuple (I : Inv X pins σ H s) (h : SqT X.K H a xs) : ∃ its : List Value, Vals xs its ∧ IsTup s.heap a its.toArray ∧ xs.length ≤ sizeLine := by
  rcases h with h | ⟨o, its, n, hk, hc, hs, hz, r⟩
  · obtain ⟨z, its, r, p⟩ := h.ok I.hok
    exact ⟨its, r, p, z⟩
  · refine ⟨its.toList, r, ⟨o, I.kIn a o hk, hc, n, by simpa using hs⟩, ?_⟩
    have e := r.length
    simp only [Array.length_toList] at e
    omega
theorem Inv.list_inj (I : Inv X pins σ H s) (h : SqL X.K H a xs) (h' : SqL X.K H a ys) : xs = ys := by
  obtain ⟨its, r, ⟨o, n, e, _, _, d⟩, _⟩ := I.list h
  obtain ⟨its', r', ⟨o', n', e', _, _, d'⟩, _⟩ := I.list h'
  rw [e] at e'; cases e'
  rw [d] at d'
  injection d' with d1 _
  have : its = its' := by simpa using congrArg Array.toList d1
  subst this
  exact r.inj r'
theorem Inv.tuple_inj (I : Inv X pins σ H s) (h : SqT X.K H a xs) (h' : SqT X.K H a ys) : xs = ys := by
  obtain ⟨its, r, ⟨o, e, _, n, d⟩, _⟩ := I.tuple h
  obtain ⟨its', r', ⟨o', e', _, n', d'⟩, _⟩ := I.tuple h'
  rw [e] at e'; cases e'
  rw [d] at d'
  injection d' with d1 _
  have : its = its' := by simpa using congrArg Array.toList d1
  subst this
  exact r.inj r'
end
abbrev Cx.wish (X : Cx) (E : Value → Shared → Prop) : Cx := { X with xe := E }
abbrev Cx.nox (X : Cx) : Cx := X.wish fun _ _ => False
theorem Cx.Ok.wish {X : Cx} (ok : X.Ok) (E : Value → Shared → Prop) : (X.wish E).Ok :=
  ⟨ok.mod, ok.kind, ok.glob, ok.blt, ok.above, ok.inj, ok.has, ok.cab, ok.hd, ok.frames, ok.stk, ok.exf, ok.bs, ok.bsz, ok.noex, ok.exfs, ok.funs, ok.frf⟩
theorem Cx.Ok.unwish {X : Cx} {E : Value → Shared → Prop} (ok : (X.wish E).Ok) : X.Ok :=
  ⟨ok.mod, ok.kind, ok.glob, ok.blt, ok.above, ok.inj, ok.has, ok.cab, ok.hd, ok.frames, ok.stk, ok.exf, ok.bs, ok.bsz, ok.noex, ok.exfs, ok.funs, ok.frf⟩
section
variable {X : Cx} {pins : List (Addr × Obj)} {σ : St} {H : Hp} {s : Shared} {E : Value → Shared → Prop}
theorem Inv.wish (I : Inv X pins σ H s) (E : Value → Shared → Prop) : Inv (X.wish E) pins σ H s := ⟨I.ok.wish E, I.os, I.bare, I.base, I.loc, I.cell, I.free, I.freeC, I.pin, I.hok, I.len⟩
theorem Inv.unwish (I : Inv (X.wish E) pins σ H s) : Inv X pins σ H s := ⟨I.ok.unwish, I.os, I.bare, I.base, I.loc, I.cell, I.free, I.freeC, I.pin, I.hok, I.len⟩
theorem SP.unwish {D : Ends} {f : Flow} {s' : Shared} (h : SP (X.wish E) pins D f s') : SP X pins D f s' := by
  cases f with
  | next => obtain ⟨σ', H', I, q⟩ := h; exact ⟨σ', H', I.unwish, q⟩
  | brk => obtain ⟨σ', H', I, q⟩ := h; exact ⟨σ', H', I.unwish, q⟩
  | cont => obtain ⟨σ', H', I, q⟩ := h; exact ⟨σ', H', I.unwish, q⟩
  | ret u => obtain ⟨v, σ', H', I, r, q⟩ := h; exact ⟨v, σ', H', I.unwish, r, q⟩
theorem PSs.nox {st : List Stmt} {t : TS} (h : PSs X.nox st t) : PSs X st t := fun pins s σ H D I hw =>
  wpAny_mono (h pins s σ H D (I.wish _) hw) (fun _ _ q => q.unwish) fun _ _ z => False.elim z
end
section
variable {X : Cx} {st : Stmt} {rest : List Stmt} {t u : TS} {e : Expr} {te : TE} {pos : Pos}
def tNext : TS := fun D σ H => D.nx σ H
def tSeq (t u : TS) : TS := fun D σ H => t { D with nx := u D } σ H
theorem pss_nil : PSs X [] tNext := fun _ _ σ H _ I h => wpAny_execs_nil ⟨σ, H, I, h⟩
theorem pss_cons (h1 : PS X st t) (h2 : PSs X rest u) : PSs X (st :: rest) (tSeq t u) := by
  intro pins s σ H D I h
  refine wpAny_execs_cons (thn (h1 pins s σ H { D with nx := u D } I h) fun f s1 q => ?_)
  cases f with
  | next =>
    obtain ⟨σ', H', I', q⟩ := q
    exact h2 pins s1 σ' H' D I' q
  | ret v => exact q
  | brk => exact q
  | cont => exact q
theorem pss_one (h1 : PS X st t) : PSs X [st] t := by
  intro pins s σ H D I h
  refine wpAny_execs_cons (thn (h1 pins s σ H D I h) fun f s1 q => ?_)
  cases f with
  | next => exact wpAny_execs_nil q
  | ret v => exact q
  | brk => exact q
  | cont => exact q
theorem Inv.quiet {pins : List (Addr × Obj)} {σ : St} {H : Hp} {s : Shared} (I : Inv X pins σ H s) : interactive X.env = false := by simp [interactive, I.ok.kind]
def tDrop (te : TE) : TS := fun D σ H => te σ H fun _ H1 => D.nx σ H1
theorem ps_expr (he : PE X e te) (hs : swapsWith e none pos.line X.env = pure false := by rfl) : PS X (.Expr e pos) (tDrop te) := by
  intro pins s σ H D I h
  exact wpAny_Expr_any (thn (he pins s σ H _ I h) fun v s1 ⟨x, H1, I1, r1, q1⟩ => ⟨σ, H1, I1, q1⟩) I.quiet hs
def tRet (te : TE) : TS := fun D σ H => te σ H D.rt
theorem ps_ret (he : PE X e te) : PS X (.Return (some e) pos) (tRet te) := by
  intro pins s σ H D I h
  exact wpAny_Return_some (thn (he pins s σ H _ I h) fun v s1 ⟨x, H1, I1, r1, q1⟩ => ⟨x, σ, H1, I1, r1, q1⟩)
def tIfS (c : TT) (t u : TS) : TS := fun D σ H => c σ H fun b H1 => if b = true then t D σ H1 else u D σ H1
theorem ps_if {c : Expr} {a b : List Stmt} {tc : TT} (hc : PT X c tc) (ha : PSs X a t) (hb : PSs X b u) : PS X (.If c a b pos) (tIfS tc t u) := by
  intro pins s σ H D I h
  refine wpAny_If (thn (hc pins s σ H _ I h) fun d s1 ⟨H1, I1, q1⟩ => ?_)
  cases d with
  | true => exact ha pins s1 σ H1 D I1 q1
  | false => exact hb pins s1 σ H1 D I1 q1
def tNever : TS := fun _ _ _ => False
theorem pss_never {sts : List Stmt} : PSs X sts tNever := fun _ _ _ _ _ _ h => h.elim
end
abbrev TG := V → St → Hp → (St → Hp → Prop) → Prop
abbrev TGs := List V → St → Hp → (St → Hp → Prop) → Prop
def PG (X : Cx) (target : Expr) (t : TG) : Prop :=
  ∀ (pins : List (Addr × Obj)) (s : Shared) (σ : St) (H : Hp) (v : V) (u : Value) (Q : St → Hp → Prop), Inv X pins σ H s → RelV v u → t v σ H Q →
    wpAny (model X.prog X.w) X.A (assign target X.env u) (fun _ s' => ∃ σ' H', Inv X pins σ' H' s' ∧ Q σ' H') X.xe s
def PGs (X : Cx) (ts : List Expr) (t : TGs) : Prop :=
  ∀ (pins : List (Addr × Obj)) (s : Shared) (σ : St) (H : Hp) (vs : List V) (us : List Value) (Q : St → Hp → Prop), Inv X pins σ H s → Vals vs us → t vs σ H Q →
    wpAny (model X.prog X.w) X.A (assignInOrder ((assignEach ts X.env).map (·.2)) us) (fun _ s' => ∃ σ' H', Inv X pins σ' H' s' ∧ Q σ' H') X.xe s
abbrev TSet := V → V → V → Hp → (Hp → Prop) → Prop
def PSet (X : Cx) (t : TSet) : Prop :=
  ∀ (pins : List (Addr × Obj)) (s : Shared) (σ : St) (H : Hp) (o i v : V) (ov iv u : Value) (Q : Hp → Prop), Inv X pins σ H s → RelV o ov → RelV i iv → RelV v u → t o i v H Q →
    wpAny (model X.prog X.w) X.A (setItem ov iv u) (fun _ s' => ∃ H', Inv X pins σ H' s' ∧ Q H') X.xe s
section
variable {X : Cx} {pos : Pos}
def gName (i : Nat) : TG := fun v σ H Q => Q (σ.set i (some v)) H
theorem pg_name {i : Nat} {x : Str} (hN : X.N.Nodup) (hi : X.N[i]? = some x) (hx : Loc X.env.scope x) (hf : X.fn x = true ∨ X.env.scope.names.lookup x = some .local := by first | exact .inl rfl | exact .inr rfl | assumption) : PG X (.Name x pos) (gName i) := by
  intro pins s σ H v u Q I r h
  exact wpAny_assign_Name (store_ok I hN hi hx r (fun s' I' => ⟨_, H, I', h⟩) hf)
def gNil : TGs := fun vs σ H Q => vs = [] ∧ Q σ H
def gCons (t : TG) (u : TGs) : TGs := fun vs σ H Q => ∃ v r, vs = v :: r ∧ t v σ H fun σ' H' => u r σ' H' Q
theorem pgs_nil : PGs X [] gNil := by
  intro pins s σ H vs us Q I r h
  obtain ⟨e, h⟩ := h
  subst e
  cases r
  exact assignInOrder_nil ⟨σ, H, I, h⟩
theorem pgs_cons {e : Expr} {es : List Expr} {t : TG} {u : TGs} (h1 : PG X e t) (h2 : PGs X es u)
    (hs : (assignEach (e :: es) X.env).map (·.2) = assign e X.env :: (assignEach es X.env).map (·.2) := by rfl) : PGs X (e :: es) (gCons t u) := by
  intro pins s σ H vs us Q I r h
  obtain ⟨v, vr, e1, h⟩ := h
  subst e1
  cases r with
  | cons r rr =>
    rw [hs]
    refine assignInOrder_cons (thn (h1 pins s σ H _ _ _ I r h) fun _ s1 ⟨σ1, H1, I1, q1⟩ => ?_)
    exact h2 pins s1 σ1 H1 _ _ Q I1 rr q1
def gTup (K : PySem.W.Frag) (n : Nat) (t : TGs) : TG := fun v σ H Q => ∃ a xs, v = .ref a ∧ SqT K H a xs ∧ xs.length = n ∧ t xs σ H Q
theorem pg_tup {es : List Expr} {k : Nat} {t : TGs} {n : Nat} (hc : X.calm = true) (h : PGs X es t)
    (hn : (assignEach es X.env).length = n := by rfl) (hst : (assignEach es X.env).findIdx? (·.1) = none := by rfl) : PG X (.Tuple es k pos) (gTup X.K n t) := by
  intro pins s σ H v u Q I r hw
  obtain ⟨a, xs, e1, hq, hl, hw⟩ := hw
  subst e1
  cases r
  obtain ⟨its, rv, ht, hz⟩ := I.tuple hq
  refine assign_Tuple_tuple (I.ok.hd hc) ht (by simp [hn, ← hl, rv.length]) hst fun h' hx => ?_
  have I1 : Inv X pins σ H { s with heap := h' } := I.kept (t' := s.toks) fun b o e => hx b o (Nat.ne_of_lt (Heap.lt_size e)) e
  exact h pins _ σ H xs _ Q I1 (by simpa using rv) hw
def gSub (to ti : TE) (t : TSet) : TG := fun v σ H Q => to σ H fun o H1 => ti σ H1 fun i H2 => t o i v H2 fun H3 => Q σ H3
theorem pg_sub {o i : Expr} {to ti : TE} {t : TSet} (ho : PE X o to) (hi : PE X i ti) (hs : PSet X t)
    (ha : ∀ v, assign (.Subscript o i pos) X.env v = (do
      let ov ← holding [v] (eval o X.env)
      let iv ← holding [v, ov] (eval i X.env)
      standAt pos
      holding [v, ov, iv] (setItem ov iv v)
      release [v, ov, iv] []) := by intro _; rfl) : PG X (.Subscript o i pos) (gSub to ti t) := by
  intro pins s σ H v u Q I r h
  rw [ha]
  refine wpAny_bind (wpAny_holding (thn (ho pins s σ H _ I h) fun ov s1 ⟨x, H1, I1, r1, q1⟩ => ?_))
  refine wpAny_bind (wpAny_holding (thn (hi pins s1 σ H1 _ I1 q1) fun iv s2 ⟨y, H2, I2, r2, q2⟩ => ?_))
  refine wpAny_bind (wpAny_standAt (wpAny_bind (wpAny_holding (thn (hs pins s2 σ H2 x y v ov iv u _ I2 r1 r2 r q2) fun _ s3 ⟨H3, I3, q3⟩ => ?_))))
  exact wpAny_release ⟨σ, H3, I3, q3⟩
def tAsg (te : TE) (g : TG) : TS := fun D σ H => te σ H fun x H1 => g x σ H1 D.nx
theorem ps_asg {tg e : Expr} {te : TE} {g : TG} (he : PE X e te) (hg : PG X tg g) (hs : swapsWithSole [tg] e pos.line X.env = pure false := by rfl) (hw : swappedStores [tg] e X.env = pure none := by rfl)
    (h1 : (assignEach [tg] X.env).map (·.2) = [assign tg X.env] := by rfl) : PS X (.Assign [tg] e pos) (tAsg te g) := by
  intro pins s σ H D I h
  refine wpAny_Assign_stores (thn (he pins s σ H _ I h) fun v s1 ⟨x, H1, I1, r1, q1⟩ => ?_) hs hw
  rw [h1]
  exact thn (hg pins s1 σ H1 x v _ I1 r1 q1) fun _ s2 q => q
theorem ps_set {i : Nat} {x : Str} {e : Expr} {te : TE} {pos' : Pos} (hN : X.N.Nodup) (hi : X.N[i]? = some x) (hx : Loc X.env.scope x) (he : PE X e te) (hs : swapsWith e (some (.Name x pos')) pos.line X.env = pure false := by rfl) (hf : X.fn x = true ∨ X.env.scope.names.lookup x = some .local := by first | exact .inl rfl | exact .inr rfl | assumption) :
    PS X (.Assign [.Name x pos'] e pos) (tAsg te (gName i)) := by
  intro pins s σ H D I h
  refine wpAny_Assign_Name (thn (he pins s σ H _ I h) fun v s1 ⟨y, H1, I1, r1, q1⟩ => ?_) hs
  exact store_ok I1 hN hi hx r1 (fun s2 I2 => ⟨_, H1, I2, q1⟩) hf
end
section
variable {X : Cx} {pos : Pos}
end
structure It where
  go : Nat → Hp → Prop
  yld : Nat → Hp → V → Hp → Prop
  stop : Nat → Hp → Prop
def FpOk (X : Cx) (pins : List (Addr × Obj)) (H : Hp) (b : Addr) : Prop :=
  H b = none ∧ b ≠ X.env.locals ∧ b ∉ X.fs ∧ (b ∈ X.ex ∨ X.s₀.heap.objs.size ≤ b) ∧ (∀ x c, X.env.cells.lookup x = some c → c ≠ b) ∧ ∀ p ∈ X.pn ++ pins, p.1 ≠ b
theorem Inv.fpOk {X : Cx} {pins : List (Addr × Obj)} {σ : St} {H H' : Hp} {s : Shared} {b : Addr} (I : Inv X pins σ H s) (hb : s.heap.objs.size ≤ b) (hn : H' b = none) : FpOk X pins H' b := by
  refine ⟨hn, Nat.ne_of_gt (Nat.lt_of_lt_of_le I.lt hb), I.nofs hb, .inr (Nat.le_trans I.sz hb), fun x c e z => ?_, fun p hp z => ?_⟩
  · obtain ⟨v, q⟩ := I.cell x c e
    exact absurd (Nat.lt_of_lt_of_le q.lt (by rw [z]; exact hb)) (Nat.lt_irrefl _)
  · exact absurd (Nat.lt_of_lt_of_le (Heap.lt_size (I.pin p hp).1) (by rw [z]; exact hb)) (Nat.lt_irrefl _)
structure Turn (P : Program) (w : World) (K : PySem.W.Frag) (tg : Expr) (J : It) (fp : List Addr) (it : Addr) (tn : Nat → Heap → Prop) : Prop where
  mem : it ∈ fp
  obj : ∀ i h, tn i h → ∀ b ∈ fp, ∃ o, h.get? b = some o ∧ ∀ v, o.data ≠ .cell v
  keep : ∀ i h h', tn i h → (∀ b ∈ fp, ∀ o, h.get? b = some o → h'.get? b = some o) → tn i h'
  item : ∀ (X : Cx), X.prog = P → X.w = w → X.K = K → X.calm = true → ∀ (i : Nat) (pins : List (Addr × Obj)) (s : Shared) (σ : St) (H : Hp) (E : Value → Shared → Prop), Inv X pins σ H s → (∀ b ∈ fp, FpOk X pins H b) → tn i s.heap → J.go i H →
    wpAny (model P w) X.A (pyNext (.ref it)) (fun r s1 => ∃ u, r = some u ∧
      wpAny (model P w) X.A (letOwnedTupleGo tg (.ref it) u) (fun _ s2 => ∃ x H', Inv X pins σ H' s2 ∧ RelV x u ∧ J.yld i H x H' ∧ tn (i + 1) s2.heap ∧ ∀ b ∈ fp, H' b = none) E s1) E s
  done : ∀ (X : Cx), X.prog = P → X.w = w → X.K = K → X.calm = true → ∀ (i : Nat) (pins : List (Addr × Obj)) (s : Shared) (σ : St) (H : Hp) (E : Value → Shared → Prop), Inv X pins σ H s → (∀ b ∈ fp, FpOk X pins H b) → tn i s.heap → J.stop i H →
    wpAny (model P w) X.A (pyNext (.ref it)) (fun r s1 => r = none ∧ Inv X pins σ H s1) E s
  self : ∀ (A : Around) (i : Nat) (s : Shared) (Q : Value → Shared → Prop) (E : Value → Shared → Prop), tn i s.heap → Q (.ref it) s → wpAny (model P w) A (pyIter (.ref it)) Q E s
abbrev TI := St → Hp → (It → Hp → Prop) → Prop
def PIE (X : Cx) (pins : List (Addr × Obj)) (σ : St) (tg : Expr) (R : It → Hp → Prop) (itv : Value) (s2 : Shared) : Prop :=
  ∃ (it : Addr) (fp : List Addr) (tn : Nat → Heap → Prop) (J : It) (H' : Hp), itv = .ref it ∧ Inv X pins σ H' s2 ∧ Turn X.prog X.w X.K tg J fp it tn ∧ tn 0 s2.heap ∧ (∀ b ∈ fp, FpOk X pins H' b) ∧ R J H'
def PI (X : Cx) (tg iter : Expr) (wi : TI) : Prop :=
  ∀ (pins : List (Addr × Obj)) (s : Shared) (σ : St) (H : Hp) (R : It → Hp → Prop), Inv X pins σ H s → wi σ H R →
    wpAny (model X.prog X.w) X.A (eval iter X.env) (fun v s1 => wpAny (model X.prog X.w) X.A (pyIter v) (PIE X pins σ tg R) X.xe s1) X.xe s
theorem go_of {M : Model} {A : Around} {E : Value → Shared → Prop} {s : Shared} {tg : Expr} {it : Addr} {u : Value} {o : Obj} {n : String} {vs : Array Value} {Q : Unit → Shared → Prop} (ho : s.heap.get? it = some o) (hc : o.cls = .type n) (hd : o.data = .fields vs)
    (hn : ["enumerate", "zip", "dict_itemiterator", "dict_reverseitemiterator", "odict_iterator", "itertools.zip_longest", "itertools.pairwise"].contains n = false) (hQ : Q () s) : wpAny M A (letOwnedTupleGo tg (.ref it) u) Q E s := by
  unfold letOwnedTupleGo
  cases tg <;> first
    | exact wpAny_pure hQ
    | (cases u <;> first
        | exact wpAny_pure hQ
        | (refine wpAny_bind (wpAny_load ho ?_)
           rw [hc, hd]
           show wpAny M A (if (["enumerate", "zip", "dict_itemiterator", "dict_reverseitemiterator", "odict_iterator", "itertools.zip_longest", "itertools.pairwise"].contains n && vs[0]? == some (rawInt _)) = true then _ else _) Q E s
           rw [if_neg (by intro h; rw [hn, Bool.false_and] at h; cases h)]
           exact wpAny_pure hQ))
def Itl (K : PySem.W.Frag) (a : Addr) : It :=
  ⟨fun i H => ∃ xs x, SqL K H a xs ∧ xs[i]? = some x, fun i H x H' => H' = H ∧ ∀ xs, SqL K H a xs → xs[i]? = some x, fun i H => ∃ xs, SqL K H a xs ∧ xs.length ≤ i⟩
def Itt (K : PySem.W.Frag) (a : Addr) : It :=
  ⟨fun i H => ∃ xs x, SqT K H a xs ∧ xs[i]? = some x, fun i H x H' => H' = H ∧ ∀ xs, SqT K H a xs → xs[i]? = some x, fun i H => ∃ xs, SqT K H a xs ∧ xs.length ≤ i⟩
def Itr (lo : Int) (n : Nat) : It := ⟨fun i _ => i < n, fun i H x H' => H' = H ∧ x = .int (lo + i), fun i _ => n ≤ i⟩
theorem turn_list {P : Program} {w : World} {K : PySem.W.Frag} {tg : Expr} (a it : Addr) : Turn P w K tg (Itl K a) [it] it (fun i h => h.IsListIter it a i) where
  mem := by simp
  obj := fun i h st b hb => by
    have e : b = it := by simpa using hb
    subst e
    obtain ⟨o, e, c, d⟩ := st
    exact ⟨o, e, fun v z => by rw [d] at z; cases z⟩
  keep := fun i h h' st k => st.at fun o e => k it (by simp) o e
  item := by
    intro X hP hw hK hc i pins s σ H E I hf st hg
    subst hP hw hK
    obtain ⟨xs, x, hq, hx⟩ := hg
    obtain ⟨its, rv, p, hz⟩ := I.list hq
    obtain ⟨u, hu, ru⟩ := rv.get hx
    obtain ⟨f0, f1, f2, f3, f4, f5⟩ := hf it (by simp)
    refine wpAny_pyNext_list_item st p.isList (x := u) (by simpa using hu) fun h' st' sb => ?_
    have I1 : Inv X pins σ H { s with heap := h' } := I.turned (t' := s.toks) (fun b o hb e => (sb.2 b hb).trans e) f0 f1 f3 f4 f5
    obtain ⟨o, e, c, d⟩ := id st'
    exact ⟨u, rfl, go_of (s := { s with heap := h' }) e c d (by decide) ⟨x, H, I1, ru, ⟨rfl, fun ys hy => by rw [I.list_inj hy hq]; exact hx⟩, st', fun b hb => (hf b hb).1⟩⟩
  done := by
    intro X hP hw hK hc i pins s σ H E I hf st hg
    subst hP hw hK
    obtain ⟨xs, hq, hx⟩ := hg
    obtain ⟨its, rv, p, hz⟩ := I.list hq
    obtain ⟨f0, f1, f2, f3, f4, f5⟩ := hf it (by simp)
    have hl := rv.length
    exact wpAny_pyNext_list_end (I.ok.hd hc) st p.isList (by simp; omega) fun h' eb => ⟨rfl, I.turned (t' := s.toks) (fun b o hb e => eb b o hb e) f0 f1 f3 f4 f5⟩
  self := fun _ _ _ _ _ st h => wpAny_pyIter_listiter st h
theorem turn_tuple {P : Program} {w : World} {K : PySem.W.Frag} {tg : Expr} (a it : Addr) : Turn P w K tg (Itt K a) [it] it (fun i h => h.IsTupleIter it a i) where
  mem := by simp
  obj := fun i h st b hb => by
    have e : b = it := by simpa using hb
    subst e
    obtain ⟨o, e, c, d⟩ := st
    exact ⟨o, e, fun v z => by rw [d] at z; cases z⟩
  keep := fun i h h' st k => st.at fun o e => k it (by simp) o e
  item := by
    intro X hP hw hK hc i pins s σ H E I hf st hg
    subst hP hw hK
    obtain ⟨xs, x, hq, hx⟩ := hg
    obtain ⟨its, rv, p, hz⟩ := I.tuple hq
    obtain ⟨u, hu, ru⟩ := rv.get hx
    obtain ⟨f0, f1, f2, f3, f4, f5⟩ := hf it (by simp)
    refine wpAny_pyNext_tuple_item st (show s.heap.IsTuple a its.toArray from p) (x := u) (by simpa using hu) fun h' st' sb => ?_
    have I1 : Inv X pins σ H { s with heap := h' } := I.turned (t' := s.toks) (fun b o hb e => (sb.2 b hb).trans e) f0 f1 f3 f4 f5
    obtain ⟨o, e, c, d⟩ := id st'
    exact ⟨u, rfl, go_of (s := { s with heap := h' }) e c d (by decide) ⟨x, H, I1, ru, ⟨rfl, fun ys hy => by rw [I.tuple_inj hy hq]; exact hx⟩, st', fun b hb => (hf b hb).1⟩⟩
  done := by
    intro X hP hw hK hc i pins s σ H E I hf st hg
    subst hP hw hK
    obtain ⟨xs, hq, hx⟩ := hg
    obtain ⟨its, rv, p, hz⟩ := I.tuple hq
    obtain ⟨f0, f1, f2, f3, f4, f5⟩ := hf it (by simp)
    have hl := rv.length
    exact wpAny_pyNext_tuple_end (I.ok.hd hc) st (show s.heap.IsTuple a its.toArray from p) (by simp; omega) fun h' eb => ⟨rfl, I.turned (t' := s.toks) (fun b o hb e => eb b o hb e) f0 f1 f3 f4 f5⟩
  self := fun _ _ _ _ _ st h => wpAny_pyIter_tupleiter st h
theorem turn_range {P : Program} {w : World} {K : PySem.W.Frag} {tg : Expr} (it : Addr) (lo : Int) (n : Nat) : Turn P w K tg (Itr lo n) [it] it (fun i h => IsRangeIter h it (lo + (i : Nat) * 1) ((n : Int) - (i : Nat)) 1) where
  mem := by simp
  obj := fun i h st b hb => by
    have e : b = it := by simpa using hb
    subst e
    exact ⟨_, st, fun v z => by
      have z' : Data.fields _ = Data.cell v := z
      cases z'⟩
  keep := fun i h h' st k => k it (by simp) _ st
  item := by
    intro X hP hw hK hc i pins s σ H E I hf st hg
    subst hP hw hK
    obtain ⟨f0, f1, f2, f3, f4, f5⟩ := hf it (by simp)
    have W := Walks.range (prog := X.prog) (w := X.w) (I.ok.hd hc) it lo 1 n
    refine W.item i s _ _ hg st fun v h' tk hv st' kk => ?_
    obtain ⟨t, rfl⟩ := hv
    have I1 : Inv X pins σ H { s with heap := h', toks := tk } := I.turned (fun b o hb e => kk b o (by simpa using hb) e) f0 f1 f3 f4 f5
    refine ⟨_, rfl, go_of (s := { s with heap := h', toks := tk }) (n := "range_iterator") st' rfl rfl (by decide) ⟨.int (lo + i), H, I1, ⟨t, ?_⟩, ⟨rfl, rfl⟩, st', fun b hb => (hf b hb).1⟩⟩
    rw [Int.mul_one]
  done := by
    intro X hP hw hK hc i pins s σ H E I hf st hg
    subst hP hw hK
    obtain ⟨f0, f1, f2, f3, f4, f5⟩ := hf it (by simp)
    exact wpAny_pyNext_range_end (I.ok.hd hc) st (by have : n ≤ i := hg; omega) fun h' eb => ⟨rfl, I.turned (t' := s.toks) (fun b o hb e => eb b o hb e) f0 f1 f3 f4 f5⟩
  self := fun _ _ _ _ _ st h => wpAny_pyIter_rangeiter st h
end L2
namespace L2
open PySem PySem.Spec PyProof.Rows
section
variable {X : Cx} {tg : Expr}
def iList (K : PySem.W.Frag) (tl : TE) : TI := fun σ H R => tl σ H fun x H1 => ∃ a, x = .ref a ∧ (∃ xs, SqL K H1 a xs) ∧ R (Itl K a) H1
def iTup (K : PySem.W.Frag) (tl : TE) : TI := fun σ H R => tl σ H fun x H1 => ∃ a, x = .ref a ∧ (∃ xs, SqT K H1 a xs) ∧ R (Itt K a) H1
theorem pi_list {l : Expr} {tl : TE} (hl : PE X l tl) : PI X tg l (iList X.K tl) := by
  intro pins s σ H R I h
  refine thn (hl pins s σ H _ I h) fun v s1 ⟨x, H1, I1, r1, q1⟩ => ?_
  obtain ⟨a, e, ⟨xs, hq⟩, q⟩ := q1
  subst e
  cases r1
  obtain ⟨its, rv, p, hz⟩ := I1.list hq
  refine wpAny_pyIter_list p.isList ?_
  refine ⟨s1.heap.objs.size, [s1.heap.objs.size], _, _, H1, rfl, I1.kept (t' := s1.toks) fun b o e => Heap.get?_push_of_some _ e, turn_list a _, ⟨_, Heap.get?_push_size _ rfl, rfl, rfl⟩, fun b hb => ?_, q⟩
  have e : b = s1.heap.objs.size := by simpa using hb
  subst e
  exact I1.fpOk (Nat.le_refl _) (I1.hok.fresh (Nat.le_refl _))
theorem pi_tup {l : Expr} {tl : TE} (hl : PE X l tl) : PI X tg l (iTup X.K tl) := by
  intro pins s σ H R I h
  refine thn (hl pins s σ H _ I h) fun v s1 ⟨x, H1, I1, r1, q1⟩ => ?_
  obtain ⟨a, e, ⟨xs, hq⟩, q⟩ := q1
  subst e
  cases r1
  obtain ⟨its, rv, p, hz⟩ := I1.tuple hq
  refine wpAny_pyIter_tuple (show s1.heap.IsTuple a its.toArray from p) ?_
  refine ⟨s1.heap.objs.size, [s1.heap.objs.size], _, _, H1, rfl, I1.kept (t' := s1.toks) fun b o e => Heap.get?_push_of_some _ e, turn_tuple a _, ⟨_, Heap.get?_push_size _ rfl, rfl, rfl⟩, fun b hb => ?_, q⟩
  have e : b = s1.heap.objs.size := by simpa using hb
  subst e
  exact I1.fpOk (Nat.le_refl _) (I1.hok.fresh (Nat.le_refl _))
theorem range_it {pins : List (Addr × Obj)} {σ : St} {H : Hp} {s : Shared} {R : It → Hp → Prop} {E : Value → Shared → Prop} {lo hi : Int} {t u v : Tok} {tk : Nat} (I : Inv X pins σ H s) (h1 : -(2 ^ 62) ≤ lo) (h2 : lo < 2 ^ 62) (h3 : -(2 ^ 62) ≤ hi) (h4 : hi < 2 ^ 62)
    (q : R (Itr lo (hi - lo).toNat) H) : wpAny (model X.prog X.w) X.A (pyIter (.ref s.heap.objs.size)) (PIE X pins σ tg R) E { s with heap := s.heap.push { cls := .type "range", data := .fields #[.int lo t, .int hi u, .int 1 v] }, toks := tk } := by
  refine wpAny_pyIter_range (IsRange.new ..) (small_one h1 h2 h3 h4) ?_
  have I1 : Inv X pins σ H { s with heap := s.heap.push { cls := .type "range", data := .fields #[.int lo t, .int hi u, .int 1 v] }, toks := tk } := I.kept fun b o e => Heap.get?_push_of_some _ e
  refine ⟨(s.heap.push { cls := .type "range", data := .fields #[.int lo t, .int hi u, .int 1 v] }).objs.size, [(s.heap.push { cls := .type "range", data := .fields #[.int lo t, .int hi u, .int 1 v] }).objs.size], _, _, H, rfl,
    I1.kept (t' := tk) fun b o e => Heap.get?_push_of_some _ e, turn_range _ lo (hi - lo).toNat, ?_, fun b hb => ?_, q⟩
  · have e1 : lo + ((0 : Nat) : Int) * 1 = lo := by simp
    have e2 : (((hi - lo).toNat : Nat) : Int) - ((0 : Nat) : Int) = Builtin.Range.rangeSize lo hi 1 := by rw [rangeSize_one]; split <;> omega
    show IsRangeIter _ _ (lo + ((0 : Nat) : Int) * 1) ((((hi - lo).toNat : Nat) : Int) - ((0 : Nat) : Int)) 1
    rw [e1, e2]
    exact Heap.get?_push_size _ rfl
  · have e : b = (s.heap.push { cls := .type "range", data := .fields #[.int lo t, .int hi u, .int 1 v] }).objs.size := by simpa using hb
    subst e
    exact I1.fpOk (Nat.le_refl _) (I1.hok.fresh (Nat.le_refl _))
def iRng1 (ta : TA) : TI := fun σ H R => ta σ H fun vs H1 => ∃ j : Int, vs = [.int j] ∧ -(2 ^ 62) ≤ j ∧ j < 2 ^ 62 ∧ R (Itr 0 j.toNat) H1
def iRng2 (ta : TA) : TI := fun σ H R => ta σ H fun vs H1 => ∃ i j : Int, vs = [.int i, .int j] ∧ (-(2 ^ 62) ≤ i ∧ i < 2 ^ 62 ∧ -(2 ^ 62) ≤ j ∧ j < 2 ^ 62) ∧ R (Itr i (j - i).toNat) H1
theorem pi_range1 {a : Expr} {ta : TA} {p pos : Pos} (hg : Gl X "range") (hm : X.mg "range" = none) (ha : PA X [a] ta) (hs : starEach [a] X.env = [(false, eval a X.env)] := by rfl) : PI X tg (.Call (.Name "range" p) [a] [] pos) (iRng1 ta) := by
  intro pins s σ H R I h
  refine Call_ (ld_blt I hg hm boot_range (PyProof.Rows.callWith_type1 (thn (ha pos pins s σ H _ I h) fun us s1 ⟨vs, H1, I1, r1, q1⟩ => ?_) hs rfl))
  obtain ⟨j, e, q1, q2, q⟩ := q1
  subst e
  cases r1 with
  | cons r rr =>
    cases rr
    obtain ⟨t, rfl⟩ := r
    exact call_range_1 (range_it I1 (by omega) (by omega) q1 q2 (by simpa using q))
theorem pi_range2 {a b : Expr} {ta : TA} {p pos : Pos} (hg : Gl X "range") (hm : X.mg "range" = none) (ha : PA X [a, b] ta) (hs : starEach [a, b] X.env = [(false, eval a X.env), (false, eval b X.env)] := by rfl) (hs2 : starEach [b] X.env = [(false, eval b X.env)] := by rfl) :
    PI X tg (.Call (.Name "range" p) [a, b] [] pos) (iRng2 ta) := by
  intro pins s σ H R I h
  refine Call_ (ld_blt I hg hm boot_range (PyProof.Rows.callWith_type1 (thn (ha pos pins s σ H _ I h) fun us s1 ⟨vs, H1, I1, r1, q1⟩ => ?_) (by rw [hs, hs2]) (by rw [hs2]; rfl)))
  obtain ⟨i, j, e, ⟨q1, q2, q3, q4⟩, q⟩ := q1
  subst e
  cases r1 with
  | cons r rr =>
    cases rr with
    | cons r' rr =>
      cases rr
      obtain ⟨t, rfl⟩ := r
      obtain ⟨t', rfl⟩ := r'
      exact call_range_2 (range_it I1 q1 q2 q3 q4 q)
def tFor (wi : TI) (g : TG) (tb : TS) : TS := fun D σ H => wi σ H fun J H1 => ∃ W : Nat → Nat → St → Hp → Prop, (∃ m, W 0 m σ H1) ∧ ∀ i m σ H, W i m σ H →
  (J.stop i H ∧ D.nx σ H) ∨ (J.go i H ∧ ∃ N : St → Hp → Prop, (∀ σ' H', N σ' H' → ∃ m', m' < m ∧ W (i + 1) m' σ' H') ∧ ∀ x H', J.yld i H x H' → g x σ H' fun σ2 H2 => tb { D with nx := N, ct := N, bk := D.nx } σ2 H2)
def pinsAt (fp : List Addr) (h : Heap) : List (Addr × Obj) := fp.filterMap fun b => (h.get? b).map fun o => (b, o)
theorem mem_pinsAt {fp : List Addr} {h : Heap} {b : Addr} {o : Obj} (hb : b ∈ fp) (e : h.get? b = some o) : (b, o) ∈ pinsAt fp h := List.mem_filterMap.mpr ⟨b, hb, by rw [e]; rfl⟩
theorem of_pinsAt {fp : List Addr} {h : Heap} {p : Addr × Obj} (hp : p ∈ pinsAt fp h) : p.1 ∈ fp ∧ h.get? p.1 = some p.2 := by
  obtain ⟨b, hb, e⟩ := List.mem_filterMap.mp hp
  cases q : h.get? b with
  | none => rw [q] at e; cases e
  | some o =>
    rw [q] at e
    have e' : (b, o) = p := Option.some.inj e
    subst e'
    exact ⟨hb, q⟩
theorem Inv.pinned {pins : List (Addr × Obj)} {σ : St} {H : Hp} {s : Shared} {fp : List Addr} (I : Inv X pins σ H s) (hf : ∀ b ∈ fp, FpOk X pins H b) (ho : ∀ b ∈ fp, ∃ o, s.heap.get? b = some o ∧ ∀ v, o.data ≠ .cell v) : Inv X (pins ++ pinsAt fp s.heap) σ H s :=
  I.pins_of fun p hp => (List.mem_append.mp hp).elim (fun z => I.pin p (List.mem_append_right _ z)) fun z => by
    obtain ⟨hb, e⟩ := of_pinsAt z
    obtain ⟨f0, f1, f2, _⟩ := hf p.1 hb
    obtain ⟨o, e', d⟩ := ho p.1 hb
    rw [e] at e'; cases e'
    exact ⟨e, f0, f1, f2, d⟩
theorem Inv.unpinned {pins pl : List (Addr × Obj)} {σ : St} {H : Hp} {s : Shared} (I : Inv X (pins ++ pl) σ H s) : Inv X pins σ H s := I.pins_of fun p hp => I.pin p (List.mem_append_right _ (List.mem_append_left _ hp))
theorem ps_for {iter : Expr} {body : List Stmt} {wi : TI} {g : TG} {tb : TS} {pos : Pos} (hp : PassesOwn (model X.prog X.w) X.A X.env X.xe) (hc : X.calm = true) (hi : PI X tg iter wi) (hg : PG X tg g) (hb : PSs X body tb)
    (hs : ∀ x, foldedSetIterable iter X.env x = pure x := by intro _; rfl) : PS X (.For tg iter body [] pos) (tFor wi g tb) := by
  intro pins s σ H D I h
  refine wpAny_For (thn (hi pins s σ H _ I h) fun v s1 h1 => thn h1 fun itv s2 h2 => ?_) hs
  obtain ⟨it, fp, tn, J, H2, e, I2, T, st2, f2, W, ⟨m0, w0⟩, turn⟩ := h2
  subst e
  -- what stays true of the iterator's objects through the loop
  have stat : ∀ {H' : Hp}, (∀ b ∈ fp, H' b = none) → ∀ b ∈ fp, FpOk X pins H' b := fun hn b hb => ⟨hn b hb, (f2 b hb).2⟩
  refine codeAny_forLoop_any (fun n s' => ∃ i σ' H', Inv X pins σ' H' s' ∧ tn i s'.heap ∧ (∀ b ∈ fp, H' b = none) ∧ W i n σ' H') ?_ m0 ⟨0, σ, H2, I2, st2, fun b hb => (f2 b hb).1, w0⟩
  rintro n s3 ⟨i, σ3, H3, I3, st3, fr3, w3⟩
  rcases turn i n σ3 H3 w3 with ⟨stop, qn⟩ | ⟨go, N, hN, step⟩
  · refine wpAny_passesOwn hp (thn (T.done X rfl rfl rfl hc i pins s3 σ3 H3 X.xe I3 (stat fr3) st3 stop) fun r s4 ⟨hr, I4⟩ => ?_)
    subst hr
    exact wpAny_execs_nil ⟨σ3, H3, I4, qn⟩
  · refine wpAny_passesOwn hp (thn (T.item X rfl rfl rfl hc i pins s3 σ3 H3 X.xe I3 (stat fr3) st3 go) fun r s4 ⟨u, hr, h4⟩ => ?_)
    subst hr
    refine wpAny_passesOwn hp (thn h4 fun _ s5 ⟨x, H5, I5, r5, y5, st5, fr5⟩ => ?_)
    have I5' := I5.pinned (stat fr5) (T.obj _ _ st5)
    refine wpAny_passesOwn hp (thn (hg _ s5 σ3 H5 x u _ I5' r5 (step x H5 y5)) fun _ s6 ⟨σ6, H6, I6, q6⟩ => ?_)
    refine wpAny_passesOwn hp (thn (hb _ s6 σ6 H6 _ I6 q6) fun f s7 q7 => ?_)
    have again : ∀ {σ7 : St} {H7 : Hp}, Inv X (pins ++ pinsAt fp s5.heap) σ7 H7 s7 → N σ7 H7 → ∃ m, m < n ∧ ∃ i σ' H', Inv X pins σ' H' s7 ∧ tn i s7.heap ∧ (∀ b ∈ fp, H' b = none) ∧ W i m σ' H' := fun {σ7 H7} I7 n7 => by
      obtain ⟨m', hm, w7⟩ := hN σ7 H7 n7
      refine ⟨m', hm, i + 1, σ7, H7, I7.unpinned, T.keep _ _ _ st5 fun b hb o e => (I7.pin (b, o) (List.mem_append_right _ (List.mem_append_right _ (mem_pinsAt hb e)))).1, fun b hb => ?_, w7⟩
      obtain ⟨o, e, d⟩ := T.obj _ _ st5 b hb
      exact (I7.pin (b, o) (List.mem_append_right _ (List.mem_append_right _ (mem_pinsAt hb e)))).2.1
    cases f with
    | next => obtain ⟨σ7, H7, I7, n7⟩ := q7; exact again I7 n7
    | cont => obtain ⟨σ7, H7, I7, n7⟩ := q7; exact again I7 n7
    | brk => obtain ⟨σ7, H7, I7, q7⟩ := q7; exact ⟨σ7, H7, I7.unpinned, q7⟩
    | ret v => obtain ⟨x7, σ7, H7, I7, r7, q7⟩ := q7; exact ⟨x7, σ7, H7, I7.unpinned, r7, q7⟩
end
theorem for_list {K : PySem.W.Frag} {a : Addr} {xs : List V} {g : TG} {tb : TS} {D : Ends} {σ : St} {H : Hp} (Pv : Nat → St → Hp → Prop) (h0 : Pv 0 σ H) (hl : ∀ i σ H, i ≤ xs.length → Pv i σ H → SqL K H a xs)
    (hs : ∀ i x σ H, xs[i]? = some x → Pv i σ H → g x σ H fun σ2 H2 => tb { D with nx := Pv (i + 1), ct := Pv (i + 1), bk := D.nx } σ2 H2) (hd : ∀ σ H, Pv xs.length σ H → D.nx σ H) :
    ∃ W : Nat → Nat → St → Hp → Prop, (∃ m, W 0 m σ H) ∧ ∀ i m σ H, W i m σ H →
      ((Itl K a).stop i H ∧ D.nx σ H) ∨ ((Itl K a).go i H ∧ ∃ N : St → Hp → Prop, (∀ σ' H', N σ' H' → ∃ m', m' < m ∧ W (i + 1) m' σ' H') ∧ ∀ x H', (Itl K a).yld i H x H' → g x σ H' fun σ2 H2 => tb { D with nx := N, ct := N, bk := D.nx } σ2 H2) := by
  refine ⟨fun i m σ H => m = xs.length - i ∧ i ≤ xs.length ∧ Pv i σ H, ⟨xs.length, by simp, Nat.zero_le _, h0⟩, ?_⟩
  rintro i m σ H ⟨rfl, hi, p⟩
  have q := hl i σ H hi p
  by_cases hlt : i < xs.length
  · refine .inr ⟨⟨xs, xs[i], q, by simp [hlt]⟩, Pv (i + 1), fun σ' H' p' => ⟨xs.length - (i + 1), by omega, rfl, hlt, p'⟩, fun x H' y => ?_⟩
    obtain ⟨e, y⟩ := y
    subst e
    exact hs i x σ _ (y xs q) p
  · have e : i = xs.length := by omega
    subst e
    exact .inl ⟨⟨xs, q, Nat.le_refl _⟩, hd σ H p⟩
theorem for_tup {K : PySem.W.Frag} {a : Addr} {xs : List V} {g : TG} {tb : TS} {D : Ends} {σ : St} {H : Hp} (Pv : Nat → St → Hp → Prop) (h0 : Pv 0 σ H) (hl : ∀ i σ H, i ≤ xs.length → Pv i σ H → SqT K H a xs)
    (hs : ∀ i x σ H, xs[i]? = some x → Pv i σ H → g x σ H fun σ2 H2 => tb { D with nx := Pv (i + 1), ct := Pv (i + 1), bk := D.nx } σ2 H2) (hd : ∀ σ H, Pv xs.length σ H → D.nx σ H) :
    ∃ W : Nat → Nat → St → Hp → Prop, (∃ m, W 0 m σ H) ∧ ∀ i m σ H, W i m σ H →
      ((Itt K a).stop i H ∧ D.nx σ H) ∨ ((Itt K a).go i H ∧ ∃ N : St → Hp → Prop, (∀ σ' H', N σ' H' → ∃ m', m' < m ∧ W (i + 1) m' σ' H') ∧ ∀ x H', (Itt K a).yld i H x H' → g x σ H' fun σ2 H2 => tb { D with nx := N, ct := N, bk := D.nx } σ2 H2) := by
  refine ⟨fun i m σ H => m = xs.length - i ∧ i ≤ xs.length ∧ Pv i σ H, ⟨xs.length, by simp, Nat.zero_le _, h0⟩, ?_⟩
  rintro i m σ H ⟨rfl, hi, p⟩
  have q := hl i σ H hi p
  by_cases hlt : i < xs.length
  · refine .inr ⟨⟨xs, xs[i], q, by simp [hlt]⟩, Pv (i + 1), fun σ' H' p' => ⟨xs.length - (i + 1), by omega, rfl, hlt, p'⟩, fun x H' y => ?_⟩
    obtain ⟨e, y⟩ := y
    subst e
    exact hs i x σ _ (y xs q) p
  · have e : i = xs.length := by omega
    subst e
    exact .inl ⟨⟨xs, q, Nat.le_refl _⟩, hd σ H p⟩
theorem for_range {lo : Int} {n : Nat} {g : TG} {tb : TS} {D : Ends} {σ : St} {H : Hp} (Pv : Nat → St → Hp → Prop) (h0 : Pv 0 σ H)
    (hs : ∀ i σ H, i < n → Pv i σ H → g (.int (lo + i)) σ H fun σ2 H2 => tb { D with nx := Pv (i + 1), ct := Pv (i + 1), bk := D.nx } σ2 H2) (hd : ∀ σ H, Pv n σ H → D.nx σ H) :
    ∃ W : Nat → Nat → St → Hp → Prop, (∃ m, W 0 m σ H) ∧ ∀ i m σ H, W i m σ H →
      ((Itr lo n).stop i H ∧ D.nx σ H) ∨ ((Itr lo n).go i H ∧ ∃ N : St → Hp → Prop, (∀ σ' H', N σ' H' → ∃ m', m' < m ∧ W (i + 1) m' σ' H') ∧ ∀ x H', (Itr lo n).yld i H x H' → g x σ H' fun σ2 H2 => tb { D with nx := N, ct := N, bk := D.nx } σ2 H2) := by
  refine ⟨fun i m σ H => m = n - i ∧ i ≤ n ∧ Pv i σ H, ⟨n, by simp, Nat.zero_le _, h0⟩, ?_⟩
  rintro i m σ H ⟨rfl, hi, p⟩
  by_cases hlt : i < n
  · refine .inr ⟨hlt, Pv (i + 1), fun σ' H' p' => ⟨n - (i + 1), by omega, rfl, hlt, p'⟩, fun x H' y => ?_⟩
    obtain ⟨e, y⟩ := y
    subst e y
    exact hs i σ _ hlt p
  · have e : i = n := by omega
    subst e
    exact .inl ⟨Nat.le_refl _, hd σ H p⟩
end L2
namespace L2
open PySem PySem.Spec PyProof.Rows
abbrev R2 := V → V → Hp → VK → Prop
def OpR (X : Cx) (f : Value → Value → Sem Value) (r : R2) : Prop :=
  ∀ (pins : List (Addr × Obj)) (s : Shared) (σ : St) (H : Hp) (x y : V) (v u : Value) (Q : VK), Inv X pins σ H s → RelV x v → RelV y u → r x y H Q →
    wpAny (model X.prog X.w) X.A (f v u) (EP X pins σ Q) X.xe s
def UnR (X : Cx) (f : Value → Sem Value) (r : V → Hp → VK → Prop) : Prop :=
  ∀ (pins : List (Addr × Obj)) (s : Shared) (σ : St) (H : Hp) (x : V) (v : Value) (Q : VK), Inv X pins σ H s → RelV x v → r x H Q →
    wpAny (model X.prog X.w) X.A (f v) (EP X pins σ Q) X.xe s
def CallR (X : Cx) (f : Value) (r : List V → Hp → VK → Prop) : Prop :=
  ∀ (pins : List (Addr × Obj)) (s : Shared) (σ : St) (H : Hp) (xs : List V) (us : List Value) (Q : VK), Inv X pins σ H s → Vals xs us → r xs H Q →
    wpAny (model X.prog X.w) X.A (call f us) (EP X pins σ Q) X.xe s
def tOp (r : R2) (ta tb : TE) : TE := fun σ H Q => ta σ H fun x H1 => tb σ H1 fun y H2 => r x y H2 Q
def tUn (r : V → Hp → VK → Prop) (ta : TE) : TE := fun σ H Q => ta σ H fun x H1 => r x H1 Q
def rI (C : Int → Int → Prop) (g : Int → Int → V) : R2 := fun x y H Q => ∃ i j, x = .int i ∧ y = .int j ∧ C i j ∧ Q (g i j) H
def rI0 (g : Int → Int → V) : R2 := fun x y H Q => ∃ i j, x = .int i ∧ y = .int j ∧ Q (g i j) H
def rU (g : Int → V) : V → Hp → VK → Prop := fun x H Q => ∃ i, x = .int i ∧ Q (g i) H
section
variable {X : Cx} {a b c : Expr} {ta tb tc : TE} {pos : Pos}
theorem binT (ha : PE X a ta) (hb : PE X b tb) {pins : List (Addr × Obj)} {s : Shared} {σ : St} {H : Hp} {R : V → V → Hp → Prop} (I : Inv X pins σ H s)
    (h : ta σ H fun x H1 => tb σ H1 fun y H2 => R x y H2) {Q : Value → Shared → Prop} {f : Value → Value → Sem Value}
    (hf : ∀ v u s2 x y H2, Inv X pins σ H2 s2 → RelV x v → RelV y u → R x y H2 → wpAny (model X.prog X.w) X.A (f v u) Q X.xe s2) :
    wpAny (model X.prog X.w) X.A (eval a X.env) (fun v s₁ => wpAny (model X.prog X.w) X.A (eval b X.env) (fun u s₂ => wpAny (model X.prog X.w) X.A (f v u) Q X.xe s₂) X.xe s₁) X.xe s := by
  refine thn (ha pins s σ H _ I h) fun v s1 ⟨x, H1, I1, r1, q1⟩ => ?_
  refine thn (hb pins s1 σ H1 _ I1 q1) fun u s2 ⟨y, H2, I2, r2, q2⟩ => ?_
  exact hf v u s2 x y H2 I2 r1 r2 q2
theorem pe_op {op : Operator} {r : R2} (ho : OpR X (binaryOp op) r) (ha : PE X a ta) (hb : PE X b tb) : PE X (.BinOp a op b pos) (tOp r ta tb) := by
  intro pins s σ H Q I h
  exact wpAny_BinOp (binT ha hb I h fun v u s2 x y H2 I2 rx ry q => ho pins s2 σ H2 x y v u Q I2 rx ry q)
theorem pe_un {op : UnaryOp} {r : V → Hp → VK → Prop} (ho : UnR X (unaryOp op) r) (ha : PE X a ta) : PE X (.UnaryOp op a pos) (tUn r ta) := by
  intro pins s σ H Q I h
  exact UnaryOp_ (thn (ha pins s σ H _ I h) fun v s1 ⟨x, H1, I1, r1, q1⟩ => ho pins s1 σ H1 x v Q I1 r1 q1)
theorem opI {f : Value → Value → Sem Value} {C : Int → Int → Prop} {g : Int → Int → Int}
    (rule : ∀ (i j : Int) (t u : Tok) (s : Shared) (Q : Value → Shared → Prop) (E : Value → Shared → Prop), C i j → Q (.int (g i j) s.toks) { s with toks := s.toks + 1 } → wpAny (model X.prog X.w) X.A (f (.int i t) (.int j u)) Q E s) :
    OpR X f (rI C fun i j => .int (g i j)) := by
  intro pins s σ H x y v u Q I rx ry h
  obtain ⟨i, j, rfl, rfl, hc, q⟩ := h
  obtain ⟨t, rfl⟩ := rx
  obtain ⟨t', rfl⟩ := ry
  exact rule i j t t' s _ _ hc ⟨.int (g i j), H, I.tok _, ⟨_, rfl⟩, q⟩
theorem opI0 {f : Value → Value → Sem Value} {g : Int → Int → Int}
    (rule : ∀ (i j : Int) (t u : Tok) (s : Shared) (Q : Value → Shared → Prop) (E : Value → Shared → Prop), Q (.int (g i j) s.toks) { s with toks := s.toks + 1 } → wpAny (model X.prog X.w) X.A (f (.int i t) (.int j u)) Q E s) :
    OpR X f (rI0 fun i j => .int (g i j)) := by
  intro pins s σ H x y v u Q I rx ry h
  obtain ⟨i, j, rfl, rfl, q⟩ := h
  obtain ⟨t, rfl⟩ := rx
  obtain ⟨t', rfl⟩ := ry
  exact rule i j t t' s _ _ ⟨.int (g i j), H, I.tok _, ⟨_, rfl⟩, q⟩
theorem opB0 {f : Value → Value → Sem Value} {g : Int → Int → Bool}
    (rule : ∀ (i j : Int) (t u : Tok) (s : Shared) (Q : Value → Shared → Prop) (E : Value → Shared → Prop), Q (.bool (g i j)) s → wpAny (model X.prog X.w) X.A (f (.int i t) (.int j u)) Q E s) :
    OpR X f (rI0 fun i j => .bl (g i j)) := by
  intro pins s σ H x y v u Q I rx ry h
  obtain ⟨i, j, rfl, rfl, q⟩ := h
  obtain ⟨t, rfl⟩ := rx
  obtain ⟨t', rfl⟩ := ry
  exact rule i j t t' s _ _ ⟨.bl (g i j), H, I, rfl, q⟩
def CDiv (i j : Int) : Prop := 0 < j ∧ j < 1073741824
def CMul (i j : Int) : Prop := (-(2 ^ 64) < i ∧ i < 2 ^ 64) ∨ (-(2 ^ 64) < j ∧ j < 2 ^ 64)
theorem CMul.ok {i j : Int} (h : CMul i j) : IntMulOk i j := by
  rcases h with ⟨h1, h2⟩ | ⟨h1, h2⟩
  · exact .of_left (intBits_le_64 h1 h2)
  · exact .of_right (intBits_le_64 h1 h2)
theorem op_add : OpR X (binaryOp .Add) (rI0 fun i j => .int (i + j)) := opI0 fun _ _ _ _ _ _ _ q => add_int q
theorem op_sub : OpR X (binaryOp .Sub) (rI0 fun i j => .int (i - j)) := opI0 fun _ _ _ _ _ _ _ q => sub_int q
theorem op_mul : OpR X (binaryOp .Mult) (rI CMul fun i j => .int (i * j)) := opI fun _ _ _ _ _ _ _ hc q => mul_int q hc.ok
theorem op_fdiv : OpR X (binaryOp .FloorDiv) (rI CDiv fun i j => .int (i / j)) := opI fun i j _ _ _ _ _ hc q => by
  have h1 : (0 : Int) < j := hc.1
  have h2 : j < 1073741824 := hc.2
  exact floordiv_int (by omega) (by rw [Int.fdiv_eq_ediv_of_nonneg i (by omega)]; exact q) (.inl (PyProof.noPylong_small (by omega)))
theorem op_mod : OpR X (binaryOp .Mod) (rI (fun _ j => 0 < j) fun i j => .int (i % j)) := opI fun i j _ _ _ _ _ hc q => by
  have h1 : (0 : Int) < j := hc
  exact mod_int' (by omega) (by rw [Int.fmod_eq_emod_of_nonneg i (by omega)]; exact q)
theorem unI {f : Value → Sem Value} {g : Int → Int}
    (rule : ∀ (i : Int) (t : Tok) (s : Shared) (Q : Value → Shared → Prop) (E : Value → Shared → Prop), Q (.int (g i) s.toks) { s with toks := s.toks + 1 } → wpAny (model X.prog X.w) X.A (f (.int i t)) Q E s) :
    UnR X f (rU fun i => .int (g i)) := by
  intro pins s σ H x v Q I rx h
  obtain ⟨i, rfl, q⟩ := h
  obtain ⟨t, rfl⟩ := rx
  exact rule i t s _ _ ⟨.int (g i), H, I.tok _, ⟨_, rfl⟩, q⟩
theorem un_neg : UnR X (unaryOp .USub) (rU fun i => .int (-i)) := unI fun _ _ _ _ _ q => neg_int q
end
def scal : V → V → Bool
  | .non, .non => true | .non, .int _ => true | .int _, .non => true | .non, .bl _ => true | .bl _, .non => true | .non, .str _ => true | .str _, .non => true
  | .int _, .int _ => true | .bl _, .bl _ => true | .str _, .str _ => true | .byt _, .byt _ => true
  | .int _, .str _ => true | .str _, .int _ => true | .bl _, .str _ => true | .str _, .bl _ => true
  | _, _ => false
def rEq : R2 := fun x y H Q => scal x y = true ∧ Q (.bl (decide (x = y))) H
def rNe : R2 := fun x y H Q => scal x y = true ∧ Q (.bl (!decide (x = y))) H
theorem dec_int {i j : Int} : decide (V.int i = V.int j) = (i == j) := by
  rw [Bool.eq_iff_iff]
  simp
theorem dec_bl {i j : Bool} : decide (V.bl i = V.bl j) = (i == j) := by
  rw [Bool.eq_iff_iff]
  simp
theorem dec_str {i j : Str} : decide (V.str i = V.str j) = (i == j) := by
  rw [Bool.eq_iff_iff]
  simp
theorem dec_byt {i j : Array UInt8} : decide (V.byt i = V.byt j) = (i.toList == j.toList) := by
  rw [Bool.eq_iff_iff]
  cases i
  cases j
  simp
section
variable {X : Cx} {a b c : Expr} {ta tb tc : TE} {pos : Pos}
theorem fin_bl {pins : List (Addr × Obj)} {σ : St} {H : Hp} {s : Shared} {Q : VK} {k k' : Bool} (I : Inv X pins σ H s) (q : Q (.bl k) H) (e : k = k') : EP X pins σ Q (.bool k') s := by
  subst e
  exact ⟨.bl k, H, I, rfl, q⟩
theorem op_eq : OpR X (compareOp .Eq) rEq := by
  intro pins s σ H x y v u Q I rx ry h
  obtain ⟨hs, q⟩ := h
  cases x with
  | non =>
    cases rx
    cases y with
    | non => cases ry; exact PySem.EqNone.eq_none_none (fin_bl I q (by simp))
    | bl j => cases ry; exact PySem.EqNone.eq_none_bool (fin_bl I q (by simp))
    | int j => obtain ⟨t', rfl⟩ := ry; exact PySem.EqNone.eq_none_int (fin_bl I q (by simp))
    | str j => obtain ⟨t', rfl⟩ := ry; exact PySem.EqNone.eq_none_str (fin_bl I q (by simp))
    | _ => exact absurd (show false = true from hs) Bool.false_ne_true
  | bl i =>
    cases rx
    cases y with
    | non => cases ry; exact PySem.EqNone.eq_bool_none (fin_bl I q (by simp))
    | bl j => cases ry; exact eq_bool (fin_bl I q dec_bl)
    | str j => obtain ⟨t', rfl⟩ := ry; exact PySem.EqMixed.eq_bool_str (fin_bl I q (by simp))
    | _ => exact absurd (show false = true from hs) Bool.false_ne_true
  | int i =>
    obtain ⟨t, rfl⟩ := rx
    cases y with
    | non => cases ry; exact PySem.EqNone.eq_int_none (fin_bl I q (by simp))
    | int j => obtain ⟨t', rfl⟩ := ry; exact eq_int (fin_bl I q dec_int)
    | str j => obtain ⟨t', rfl⟩ := ry; exact PySem.EqMixed.eq_int_str (fin_bl I q (by simp))
    | _ => exact absurd (show false = true from hs) Bool.false_ne_true
  | str i =>
    obtain ⟨t, rfl⟩ := rx
    cases y with
    | non => cases ry; exact PySem.EqNone.eq_str_none (fin_bl I q (by simp))
    | bl j => cases ry; exact PySem.EqMixed.eq_str_bool (fin_bl I q (by simp))
    | int j => obtain ⟨t', rfl⟩ := ry; exact PySem.EqMixed.eq_str_int (fin_bl I q (by simp))
    | str j => obtain ⟨t', rfl⟩ := ry; exact eq_str (fin_bl I q dec_str)
    | _ => exact absurd (show false = true from hs) Bool.false_ne_true
  | byt i =>
    obtain ⟨t, rfl⟩ := rx
    cases y with
    | byt j => obtain ⟨t', rfl⟩ := ry; exact PySem.W.eq_bytes (fin_bl I q dec_byt)
    | _ => exact absurd (show false = true from hs) Bool.false_ne_true
  | _ => cases y <;> exact absurd (show false = true from hs) Bool.false_ne_true
theorem op_ne : OpR X (compareOp .NotEq) rNe := by
  intro pins s σ H x y v u Q I rx ry h
  obtain ⟨hs, q⟩ := h
  cases x with
  | non =>
    cases rx
    cases y with
    | non => cases ry; exact PySem.EqNone.ne_none_none (fin_bl I q (by simp))
    | bl j => cases ry; exact PySem.EqNone.ne_none_bool (fin_bl I q (by simp))
    | int j => obtain ⟨t', rfl⟩ := ry; exact PySem.EqNone.ne_none_int (fin_bl I q (by simp))
    | str j => obtain ⟨t', rfl⟩ := ry; exact PySem.EqNone.ne_none_str (fin_bl I q (by simp))
    | _ => exact absurd (show false = true from hs) Bool.false_ne_true
  | bl i =>
    cases rx
    cases y with
    | non => cases ry; exact PySem.EqNone.ne_bool_none (fin_bl I q (by simp))
    | bl j => cases ry; exact ne_bool (fin_bl I q (congrArg not dec_bl))
    | str j => obtain ⟨t', rfl⟩ := ry; exact PySem.EqMixed.ne_bool_str (fin_bl I q (by simp))
    | _ => exact absurd (show false = true from hs) Bool.false_ne_true
  | int i =>
    obtain ⟨t, rfl⟩ := rx
    cases y with
    | non => cases ry; exact PySem.EqNone.ne_int_none (fin_bl I q (by simp))
    | int j => obtain ⟨t', rfl⟩ := ry; exact ne_int (fin_bl I q (congrArg not dec_int))
    | str j => obtain ⟨t', rfl⟩ := ry; exact PySem.EqMixed.ne_int_str (fin_bl I q (by simp))
    | _ => exact absurd (show false = true from hs) Bool.false_ne_true
  | str i =>
    obtain ⟨t, rfl⟩ := rx
    cases y with
    | non => cases ry; exact PySem.EqNone.ne_str_none (fin_bl I q (by simp))
    | bl j => cases ry; exact PySem.EqMixed.ne_str_bool (fin_bl I q (by simp))
    | int j => obtain ⟨t', rfl⟩ := ry; exact PySem.EqMixed.ne_str_int (fin_bl I q (by simp))
    | str j => obtain ⟨t', rfl⟩ := ry; exact ne_str (fin_bl I q (congrArg not dec_str))
    | _ => exact absurd (show false = true from hs) Bool.false_ne_true
  | byt i =>
    obtain ⟨t, rfl⟩ := rx
    cases y with
    | byt j => obtain ⟨t', rfl⟩ := ry; exact PySem.W.ne_bytes (fin_bl I q (congrArg not dec_byt))
    | _ => exact absurd (show false = true from hs) Bool.false_ne_true
  | _ => cases y <;> exact absurd (show false = true from hs) Bool.false_ne_true
theorem op_lt : OpR X (compareOp .Lt) (rI0 fun i j => .bl (decide (i < j))) := opB0 fun _ _ _ _ _ _ _ q => lt_int q
theorem op_isN : OpR X (compareOp .Is) (fun x y H Q => y = .non ∧ Q (.bl (decide (x = .non))) H) := by
  intro pins s σ H x y v u Q I rx ry h
  obtain ⟨rfl, q⟩ := h
  cases ry
  refine is_none_gen (fin_bl I q ?_)
  cases x <;> first
    | (cases rx; rfl)
    | (obtain ⟨t, rfl⟩ := rx; rfl)
theorem nomark (b : Expr) {op : CmpOp} (h : op ≠ .In := by decide) (h2 : op ≠ .NotIn := by decide) : behindInMarks op b = false := by
  have e1 : (op == CmpOp.In) = false := by cases op <;> first | rfl | exact absurd rfl h
  have e2 : (op == CmpOp.NotIn) = false := by cases op <;> first | rfl | exact absurd rfl h2
  cases b <;> simp [behindInMarks, e1, e2]
theorem pe_cmpR {op : CmpOp} {r : R2} (ho : OpR X (compareOp op) r) (ha : PE X a ta) (hb : PE X b tb) (hm : behindInMarks op b = false) : PE X (.Compare a [op] [b] pos) (tOp r ta tb) := by
  intro pins s σ H Q I h
  exact wpAny_Compare1 (binT ha hb I h fun v u s2 x y H2 I2 rx ry q => ho pins s2 σ H2 x y v u Q I2 rx ry q) hm
def tTest (t : TE) : TT := fun σ H Q => t σ H fun x H' => ∃ k, x = .bl k ∧ Q k H'
theorem pt_cmpR {op : CmpOp} {r : R2} (ho : OpR X (compareOp op) r) (ha : PE X a ta) (hb : PE X b tb) (hm : behindInMarks op b = false) : PT X (.Compare a [op] [b] pos) (tTest (tOp r ta tb)) := by
  intro pins s σ H Q I h
  refine wpAny_isTrue_Compare1 (thn (ha pins s σ H _ I h) fun v s1 ⟨x, H1, I1, r1, q1⟩ => thn (hb pins s1 σ H1 _ I1 q1) fun u s2 ⟨y, H2, I2, r2, q2⟩ =>
    thn (ho pins s2 σ H2 x y v u _ I2 r1 r2 q2) fun c s3 ⟨z, H3, I3, r3, k, e, q3⟩ => ?_) hm
  subst e
  cases r3
  exact wpAny_truthy_bool ⟨H3, I3, q3⟩
def tChain (r r' : R2) (ta tb tc : TE) : TE := fun σ H Q => ta σ H fun x H1 => tb σ H1 fun y H2 => r x y H2 fun z H3 => ∃ k, z = .bl k ∧
  (if k = true then tc σ H3 fun w' H4 => r' y w' H4 Q else Q (.bl false) H3)
theorem pt_chain {op op' : CmpOp} {r r' : R2} (ho : OpR X (compareOp op) r) (ho' : OpR X (compareOp op') r') (ha : PE X a ta) (hb : PE X b tb) (hc : PE X c tc)
    (hm : lastMarks [op, op'] [b, c] = false := by with_unfolding_all rfl) : PT X (.Compare a [op, op'] [b, c] pos) (tTest (tChain r r' ta tb tc)) := by
  intro pins s σ H Q I h
  refine isTrue_chain (thn (ha pins s σ H _ I h) fun v s1 ⟨x, H1, I1, r1, q1⟩ => test_link (thn (hb pins s1 σ H1 _ I1 q1) fun u s2 ⟨y, H2, I2, r2, q2⟩ =>
    thn (ho pins s2 σ H2 x y v u _ I2 r1 r2 q2) fun d s3 ⟨z, H3, I3, r3, k, e, q3⟩ => ?_)) hm
  subst e
  cases r3
  refine wpAny_truthy_bool ?_
  cases k with
  | false =>
    obtain ⟨k', e', q'⟩ := q3
    cases e'
    exact ite_ff ⟨H3, I3, q'⟩
  | true =>
    refine ite_tt (test_last (thn (hc pins s3 σ H3 _ I3 q3) fun w' s4 ⟨z', H4, I4, r4, q4⟩ => thn (ho' pins s4 σ H4 y z' u w' _ I4 r2 r4 q4) fun d' s5 ⟨z2, H5, I5, r5, k2, e2, q5⟩ => ?_))
    subst e2
    cases r5
    exact wpAny_truthy_bool ⟨H5, I5, q5⟩
theorem line63 : (sizeLine : Nat) < 2 ^ 63 := by rw [sizeLine_eq]; decide
theorem op_add_str : OpR X (binaryOp .Add) (fun x y H Q => ∃ i j, x = .str i ∧ y = .str j ∧ i.length + j.length ≤ sizeLine ∧ Q (.str (i ++ j)) H) := by
  intro pins s σ H x y v u Q I rx ry h
  obtain ⟨i, j, rfl, rfl, hz, q⟩ := h
  obtain ⟨t, rfl⟩ := rx
  obtain ⟨t', rfl⟩ := ry
  exact add_str (fun t' tk => ⟨.str (i ++ j), H, I.tok _, ⟨_, rfl⟩, q⟩) hz
theorem vals1 {x : V} {us : List Value} (r : Vals [x] us) : ∃ u, us = [u] ∧ RelV x u := by
  cases r with
  | cons r1 r2 => cases r2; exact ⟨_, rfl, r1⟩
theorem vals2 {x y : V} {us : List Value} (r : Vals [x, y] us) : ∃ u w', us = [u, w'] ∧ RelV x u ∧ RelV y w' := by
  cases r with
  | cons r1 r2 =>
    cases r2 with
    | cons r3 r4 => cases r4; exact ⟨_, _, rfl, r1, r3⟩
end
end L2
namespace L2
open PySem PySem.Spec PyProof.Rows
structure ObjM (h : Heap) (x dx C : Addr) (mA : Str → Option Value) : Prop where
  obj : h.get? x = some (PySem.W.instObj C dx)
  ns : h.Ns1 dx mA
  ne : dx ≠ x
theorem lookIn_ns {h : Heap} {dx : Addr} {mA : Str → Option Value} (n : h.Ns1 dx mA) : ∃ od, h.get? dx = some od ∧ ∀ name, PySem.W.lookIn name od = some (mA name) := by
  obtain ⟨o, es, ep, ho, hd, hk, _, hm⟩ := n
  refine ⟨o, ho, fun name => ?_⟩
  have e := hm name
  unfold nsFind findBy at e
  rw [← Array.find?_toList] at e
  unfold PySem.W.lookIn
  rw [hd]
  dsimp only
  split
  · rename_i y q
    rw [q] at e
    exact congrArg some e
  · rename_i q
    rw [q] at e
    have a : es.toList.any (·.refKey) = false := by
      rw [List.any_eq_false]
      intro y hy
      obtain ⟨z, t, hkey⟩ := hk y (Array.mem_toList_iff.mp hy)
      simp [DictEntry.refKey, hkey]
    have a' : ¬ es.toList.any (·.refKey) = true := by rw [a]; exact Bool.false_ne_true
    rw [if_neg a']
    exact congrArg some e
theorem ObjM.look {h : Heap} {x dx C : Addr} {mA : Str → Option Value} (I : ObjM h x dx C mA) : ∃ od, PySem.W.InstAt h x (PySem.W.instObj C dx) C (some od) ∧ ∀ name, PySem.W.lookIn name od = some (mA name) :=
  let ⟨od, ho, hl⟩ := lookIn_ns I.ns
  ⟨od, ⟨I.obj, rfl, rfl, ho⟩, hl⟩
section
variable {prog : Program} {w : World} {A : Around} {E : Value → Shared → Prop} {s : Shared} {K : PySem.W.Frag} {x dx C f : Addr} {mA : Str → Option Value} {name : Str} {v : Value}
end
section
variable {P : Program} {w : World} {H H' : Hp} {h h' : Heap} {a C dx : Addr} {fs fs' : List (Str × V)}
theorem ins_get (hok : HOk P w H h) (e : H a = some (.ins C dx fs)) : ∃ mA, ObjM h a dx C mA ∧ (∀ f, RelO (fs.lookup f) (mA f)) ∧ PySem.Within mA (fs.map (·.1)) ∧ fs.length ≤ 1000 ∧ H dx = some (.own a) := by
  obtain ⟨d, z, ne, ob, mA, n, r, q⟩ := (show ObjOk P w H h a (.ins C dx fs) from hok a _ e)
  exact ⟨mA, ⟨ob, n, ne⟩, r, q, z, d⟩
end
structure Cls (K : PySem.W.Frag) (C : Addr) : Prop where
  pg : PySem.W.plainGet K C Str.empty = true
  hd : PySem.W.hasDictIn K C = true
  po : PySem.W.plainOver K C = true
  sa : PySem.W.findIn K (.ref C) "__setattr__" = some (some (.builtin "object.__setattr__"))
theorem Cls.get {K : PySem.W.Frag} {C : Addr} (c : Cls K C) (f : Str) : PySem.W.plainGet K C f = true := c.pg
section
variable {X : Cx} {pins : List (Addr × Obj)} {σ : St} {H : Hp} {s : Shared} {a C dx : Addr} {fs : List (Str × V)} {f : Str} {v : V} {A : Around} {E : Value → Shared → Prop}
end
section
variable {X : Cx} {o e value : Expr} {f : Str} {pos pos' tpos : Pos} {ta tv : TE}
end
section
variable {X : Cx} {pins : List (Addr × Obj)} {σ : St} {H : Hp} {s : Shared} {A : Around} {E : Value → Shared → Prop} {Q : Value → Shared → Prop} {c : Value} {b : Bool}
inductive TyOf (K : PySem.W.Frag) (H : Hp) : V → Value → Prop where
  | non : TyOf K H .non (.type "NoneType")
  | bl (x : Bool) : TyOf K H (.bl x) (.type "bool")
  | int (i : Int) : TyOf K H (.int i) (.type "int")
  | str (x : Str) : TyOf K H (.str x) (.type "str")
  | flt (x : UInt64) : TyOf K H (.flt x) (.type "float")
  | lst {a : Addr} {xs : List V} (e : H a = some (.lst xs)) : TyOf K H (.ref a) (.type "list")
  | frz {a : Addr} {o : Obj} {xs : List V} (e : H a = some (.frz o (.lst xs))) : TyOf K H (.ref a) (.type "list")
  | tup {a : Addr} {xs : List V} (e : H a = some (.tup xs)) : TyOf K H (.ref a) (.type "tuple")
  | dK {a : Addr} {kvs : List (Key × V)} (e : H a = some (.dK kvs)) : TyOf K H (.ref a) (.type "dict")
  | dT {a : Addr} {kvs : List (List Key × V)} (e : H a = some (.dT kvs)) : TyOf K H (.ref a) (.type "dict")
  | ins {a C dx : Addr} {fs : List (Str × V)} (e : H a = some (.ins C dx fs)) (cl : Cls K C) (ha : PySem.W.findIn K (.ref C) "__class__" = some (some (.builtin "object.__class__")))
      (hn : PySem.W.specialIn K (.builtin "object.__class__") "__get__" = some (some (.builtin "getset_descriptor.__get__"))) (htk : PySem.W.takesIn K (.builtin "object.__class__") = some true)
      (hm : PySem.W.mroIn K C (.type "object") = some true) : TyOf K H (.ref a) (.ref C)
theorem isinst_ok {x : V} {u t : Value} (I : Inv X pins σ H s) (rx : RelV x u) (ty : TyOf X.K H x t) (e : PySem.W.kitOne X.K t c = some b) (h : ∀ tk, Q (.bool b) { s with toks := tk }) :
    wpAny (model X.prog X.w) A (call (.builtin "isinstance") [u, c]) Q E s := by
  cases ty with
  | non => cases (show u = Value.none from rx); exact PySem.W.kia_one PySem.W.kitx_none I.kIn True.intro e (fun z => nomatch z) h
  | bl y => cases (show u = Value.bool y from rx); exact PySem.W.kia_one PySem.W.kitx_bool I.kIn True.intro e (fun z => nomatch z) h
  | int i => obtain ⟨t, q⟩ := (show ∃ t, u = Value.int i t from rx); cases q; exact PySem.W.kia_one PySem.W.kitx_int I.kIn True.intro e (fun z => nomatch z) h
  | str y => obtain ⟨t, q⟩ := (show ∃ t, u = Value.str y t from rx); cases q; exact PySem.W.kia_one PySem.W.kitx_str I.kIn True.intro e (fun z => nomatch z) h
  | flt y => obtain ⟨t, q⟩ := (show ∃ t, u = Value.float y t from rx); cases q; exact PySem.W.kia_one PySem.W.kitx_float I.kIn True.intro e (fun z => nomatch z) h
  | @lst a xs ea =>
    cases (show u = Value.ref a from rx)
    obtain ⟨_, _, n, _, h1⟩ := (show ObjOk X.prog X.w H s.heap a (.lst xs) from I.hok a _ ea)
    exact PySem.W.kia_one PySem.W.kitx_list I.kIn ⟨_, h1, rfl⟩ e (fun z => nomatch z) h
  | @frz a ob xs ea =>
    cases (show u = Value.ref a from rx)
    obtain ⟨_, _, _, n, _, h1⟩ := (show ObjOk X.prog X.w H s.heap a (.frz ob (.lst xs)) from I.hok a _ ea)
    exact PySem.W.kia_one PySem.W.kitx_list I.kIn ⟨_, h1, rfl⟩ e (fun z => nomatch z) h
  | @tup a xs ea =>
    cases (show u = Value.ref a from rx)
    obtain ⟨_, _, _, p⟩ := (show ObjOk X.prog X.w H s.heap a (.tup xs) from I.hok a _ ea)
    obtain ⟨o, h1, h2, _⟩ := p
    exact PySem.W.kia_one PySem.W.kitx_tuple I.kIn ⟨o, h1, h2⟩ e (fun z => nomatch z) h
  | @dK a kvs ea =>
    cases (show u = Value.ref a from rx)
    obtain ⟨_, _, vs, _, p⟩ := (show ObjOk X.prog X.w H s.heap a (.dK kvs) from I.hok a _ ea)
    obtain ⟨o, es, ep, h1, h2, _⟩ := p
    exact PySem.W.kia_one PySem.W.kitx_dict I.kIn ⟨o, h1, h2.1⟩ e (fun z => nomatch z) h
  | @dT a kvs ea => exact False.elim (show ObjOk X.prog X.w H s.heap a (.dT kvs) from I.hok a _ ea)
  | @ins a C dx fs ea cl ha hn htk hm =>
    cases (show u = Value.ref a from rx)
    obtain ⟨mA, O, _⟩ := ins_get I.hok ea
    obtain ⟨od, J, _⟩ := O.look
    exact PySem.W.kia_one (PySem.W.kitx_own (cl.get _) cl.hd ha hn htk hm) I.kIn J e (fun z => nomatch z) h
end
end L2
namespace L2
open PySem PySem.Spec PyProof.Rows
structure Room (k : Nat) (A : Around) : Prop where
  hd : A.handled = none
  dp : A.depth + 3 * k + 5 < recursionLimit
  un : A.units + 16 * k + 200 < cLine
theorem Room.mono {j k : Nat} {A : Around} (r : Room k A) (h : j ≤ k) : Room j A := ⟨r.hd, by have := r.dp; omega, by have := r.un; omega⟩
theorem Room.deeper {k : Nat} {A : Around} (r : Room (k + 1) A) (env : Env) : Room k (A.deeper env) :=
  ⟨r.hd, by have := r.dp; show A.depth + 1 + 3 * k + 5 < _; omega, by have := r.un; show A.units + 3 + 16 * k + 200 < _; omega⟩
theorem Room.depth {k : Nat} {A : Around} (r : Room k A) : A.depth < recursionLimit := by have := r.dp; omega
theorem Room.units {k : Nat} {A : Around} (r : Room k A) : A.units + 64 < cLine := by have := r.un; omega
def tNil : TA := fun _ H Q => Q [] H
def tCons (ta : TE) (tr : TA) : TA := fun σ H Q => ta σ H fun x H1 => tr σ H1 fun xs H2 => Q (x :: xs) H2
section
variable {X : Cx} {e : Expr} {es : List Expr} {te : TE} {t : TA} {pos : Pos}
theorem pa_nil : PA X [] tNil := fun _ _ _ _ H Q I h => Calls.spliced_nil ⟨[], H, I, .nil, h⟩
theorem pa_cons (ha : PE X e te) (hr : PA X es t) (hs : starEach (e :: es) X.env = (false, eval e X.env) :: starEach es X.env := by rfl) : PA X (e :: es) (tCons te t) := by
  intro pos pins s σ H Q I h
  rw [hs]
  show wpAny _ _ (spliced ((false, eval e X.env) :: backTo pos (starEach es X.env))) _ _ s
  refine Calls.spliced_cons (thn (ha pins s σ H _ I h) fun u s1 ⟨x, H1, I1, r1, q1⟩ => ?_)
  exact thn (hr pos pins s1 σ H1 _ I1 q1) fun us s2 ⟨xs, H2, I2, r2, q2⟩ => ⟨x :: xs, H2, I2, .cons r1 r2, q2⟩
def tTup (t : TA) : TE := fun σ H Q => t σ H fun xs H1 => xs.length ≤ sizeLine ∧ ∀ p, H1 p = none → Q (.ref p) (upd H1 p (.tup xs))
def tLst (t : TA) : TE := fun σ H Q => t σ H fun xs H1 => xs.length ≤ sizeLine ∧ ∀ p, H1 p = none → Q (.ref p) (upd H1 p (.lst xs))
theorem pe_tup {x1} (h : PA X es t) : PE X (.Tuple es x1 pos) (tTup t) := by
  intro pins s σ H Q I hq
  refine wpAny_Tuple_spliced (thn (h pos pins s σ H _ I hq) fun us s1 ⟨xs, H1, I1, r, z, q⟩ => ⟨by rw [← r.length]; exact z, ?_⟩)
  have hf : H1 s1.heap.objs.size = none := I1.hok.fresh (Nat.le_refl _)
  refine ⟨.ref s1.heap.objs.size, upd H1 s1.heap.objs.size (.tup xs), I1.laid (t' := s1.toks) (fun b u e => Heap.get?_push_of_some _ e) (Nat.le_refl _) ?_, rfl, q _ hf⟩
  exact ⟨z, us, r, ⟨_, Heap.get?_push_size _ rfl, rfl, _, rfl⟩⟩
theorem pe_lst (h : PA X es t) : PE X (.List es pos) (tLst t) := by
  intro pins s σ H Q I hq
  refine wpAny_List_spliced (thn (h pos pins s σ H _ I hq) fun us s1 ⟨xs, H1, I1, r, z, q⟩ => ⟨by rw [← r.length]; exact z, ?_⟩)
  have hf : H1 s1.heap.objs.size = none := I1.hok.fresh (Nat.le_refl _)
  refine ⟨.ref s1.heap.objs.size, upd H1 s1.heap.objs.size (.lst xs), I1.laid (t' := s1.toks) (fun b u e => Heap.get?_push_of_some _ e) (Nat.le_refl _) ?_, rfl, q _ hf⟩
  exact ⟨z, us, 0, r, Heap.get?_push_size _ rfl⟩
end
abbrev Sp := List V → Hp → VK → XK → Prop
abbrev CXT := List Env → Hp → Shared → XK → Value → Shared → Prop
structure Env0 (P : Program) (w : World) (K : PySem.W.Frag) (mg : Str → Option Value) (base : Heap) (A : Around) (outer : List Env) (s : Shared) (H : Hp) : Prop where
  frames : A.frames = some outer
  mod : Mod K mg base
  bs : ∀ b o, base.get? b = some o → s.heap.get? b = some o ∧ H b = none
  bsz : base.objs.size ≤ s.heap.objs.size
  funs : s.heap.FunFrames base outer
  frf : ∀ b ∈ frs outer, H b = none
  hok : HOk P w H s.heap
  bare : AllBare s.gens
def CE (outer : List Env) (P : Program) (w : World) (H : Hp) (s : Shared) (Q : VK) (u : Value) (s' : Shared) : Prop :=
  ∃ v H', s'.os = s.os ∧ AllBare s'.gens ∧ Un (frs outer) [] H H' s.heap s'.heap ∧ HOk P w H' s'.heap ∧ RelV v u ∧ Q v H'
def CR (CX : CXT) (outer : List Env) (P : Program) (w : World) (H : Hp) (s : Shared) (Q : VK) (E : XK) (r : Result) (s' : Shared) : Prop :=
  match r with
  | .ok (.ret u) => CE outer P w H s Q u s'
  | .ok _ => False
  | .error e => CX outer H s E e s'
structure FnOk (P : Program) (w : World) (K : PySem.W.Frag) (mg : Str → Option Value) (base : Heap) (CX : CXT) (k : Nat) (f : Addr) (fd : FuncData) (ps : List Str) (sp : Sp) : Prop where
  len : ∀ vs H Q E, sp vs H Q E → vs.length = ps.length
  run : ∀ (A : Around) (outer : List Env) (s : Shared) (H : Hp) (args : Args) (us : List Value) (vs : List V) (Q : VK) (E : XK), Room k A → Env0 P w K mg base A outer s H → BindsTo s fd args (ps.zip us) → Vals vs us → sp vs H Q E →
    codeAny (model P w) A (.call (.ref f) args) (CR CX outer P w H s Q E) s
theorem FnOk.mono {P : Program} {w : World} {K : PySem.W.Frag} {mg : Str → Option Value} {base : Heap} {CX : CXT} {j k : Nat} {f : Addr} {fd : FuncData} {ps : List Str} {sp : Sp} (F : FnOk P w K mg base CX j f fd ps sp) (h : j ≤ k) :
    FnOk P w K mg base CX k f fd ps sp := ⟨F.len, fun A outer s H args us vs Q E hr => F.run A outer s H args us vs Q E (hr.mono h)⟩
section
variable {X : Cx} {pins : List (Addr × Obj)} {σ : St} {H : Hp} {s s' : Shared}
theorem Inv.env0 (I : Inv X pins σ H s) : Env0 X.prog X.w X.K X.mg X.base X.A X.stack s H :=
  ⟨I.ok.frames, I.ok.mod, I.bs, Nat.le_trans I.ok.bsz I.sz, I.stack, I.stkFree, I.hok, I.bare⟩
theorem Inv.after {Q : VK} {u : Value} (I : Inv X pins σ H s) (h : CE X.stack X.prog X.w H s Q u s') : EP X pins σ Q u s' := by
  obtain ⟨v, H', os, bare, un, hok, r, q⟩ := h
  obtain ⟨hh, g, d, t, os'⟩ := s'
  obtain rfl : os' = s.os := os
  exact ⟨v, H', I.call (h' := hh) (g' := g) (d' := d) (t' := t) (ch := []) un hok bare (fun b z => absurd z (by simp)), r, q⟩
end
def tCall (sp : Sp) (dvs : List V) (E : XK) (t : TA) : TE := fun σ H Q => t σ H fun vs H1 => sp (vs ++ dvs) H1 Q E
def Binds (K : PySem.W.Frag) (fd : FuncData) (ps : List Str) (ds : List Value) : Prop :=
  ∀ (s : Shared) (us : List Value), K.In s.heap → (us ++ ds).length = ps.length → BindsTo s fd ⟨us, []⟩ (ps.zip (us ++ ds))
theorem Binds.all {K : PySem.W.Frag} {fd : FuncData} {ps : List Str} (h : ∀ us : List Value, us.length = ps.length → bindArgs fd ⟨us, []⟩ = pure (ps.zip us)) : Binds K fd ps [] := fun s us _ hl => by
  rw [List.append_nil] at hl ⊢
  exact .of_eq (h us hl)
def Passes (CX : CXT) (X : Cx) (E : XK) : Prop := ∀ (pins : List (Addr × Obj)) (σ : St) (H : Hp) (s : Shared) (e : Value) (s' : Shared), Inv X pins σ H s → CX X.stack H s E e s' → X.xe e s'
section
variable {X : Cx} {CX : CXT} {k : Nat} {f C : Addr} {fd : FuncData} {ps : List Str} {sp : Sp} {dvs : List V} {ds : List Value} {E : XK} {x m : Str} {p pos apos : Pos} {e o : Expr} {es : List Expr} {ta : TE} {t : TA}
theorem run_fn {pins : List (Addr × Obj)} {σ : St} {H : Hp} {s : Shared} {Q : VK} {us : List Value} {vs : List V} (F : FnOk X.prog X.w X.K X.mg X.base CX k f fd ps sp) (hr : Room k X.A) (hb : Binds X.K fd ps ds) (hd : Vals dvs ds) (hx : Passes CX X E)
    (I : Inv X pins σ H s) (r : Vals vs us) (h : sp (vs ++ dvs) H Q E) : wpAny (model X.prog X.w) X.A (call (.ref f) us) (EP X pins σ Q) X.xe s := by
  have r2 : Vals (vs ++ dvs) (us ++ ds) := r.append hd
  have hl : (us ++ ds).length = ps.length := by rw [← r2.length]; exact F.len _ _ _ _ h
  refine wpAny_call (codeAny_mono (F.run X.A X.stack s H ⟨us, []⟩ (us ++ ds) (vs ++ dvs) Q E hr I.env0 (hb s us I.kIn hl) r2 h) fun r s' hq => ?_)
  cases r with
  | error e => exact hx pins σ H s e s' I hq
  | ok fl =>
    cases fl with
    | ret u => exact I.after hq
    | next => exact False.elim hq
    | brk => exact False.elim hq
    | cont => exact False.elim hq
theorem pe_call (F : FnOk X.prog X.w X.K X.mg X.base CX k f fd ps sp) (hr : Room k X.A) (hg : Gl X x) (hm : X.mg x = some (.ref f)) (hk : PySem.W.keepIn X.K (.ref f) = true) (hb : Binds X.K fd ps ds) (hd : Vals dvs ds) (hx : Passes CX X E)
    (ha : PA X (e :: es) t) (hdb : (x == ("__debug__" : Str)) = false := by decide) (he : starEach (e :: es) X.env = (false, eval e X.env) :: starEach es X.env := by rfl) (hpl : (backTo pos (starEach es X.env)).any (·.1) = false := by rfl) :
    PE X (.Call (.Name x p) (e :: es) [] pos) (tCall sp dvs E t) := by
  intro pins s σ H Q I h
  refine wpAny_Call_Name_kw (ld_glob I hg hm ?_ hdb)
  refine PySem.W.callWith_K (h₀ := X.base) I.ok.mod.kin hk (thn (ha pos pins s σ H _ I h) fun us s1 ⟨vs, H1, I1, r, q⟩ => ⟨I1.kIn, ?_⟩) he hpl
  exact run_fn F hr hb hd hx I1 r q
end
section
variable {X : Cx} {CX : CXT} {k : Nat} {f C : Addr} {fd : FuncData} {ps ks : List Str} {sp : Sp} {E : XK} {x m : Str} {p pos apos kpos : Pos} {e o : Expr} {es : List Expr} {kws : List Keyword} {te ta : TE} {t tk : TA} {nm : Option Str}
variable {g : List Value → List Value → List Value} {gV : List V → List V → List V}
end
structure FnScope (N P : List Str) (sc : Scope) : Prop where
  kind : sc.kind = .function
  co : sc.isCoroutine = false
  gen : sc.isGenerator = false
  nd : N.Nodup
  pre : N.take P.length = P
  par : ∀ x ∈ P, sc.names.lookup x = some .local ∨ sc.names.lookup x = some .cell
  nofree : ∀ y ∈ sc.names, y.2 ≠ .free
theorem bindL_out {kindOf : Str → Option NameKind} {x : Str} : ∀ {binds : List (Str × Value)} {m : Str → Option Value}, (∀ v, (x, v) ∉ binds) → bindL kindOf binds m x = m x
  | [], _, _ => rfl
  | (n, v) :: r, m, h => by
    unfold bindL
    rw [bindL_out fun w hw => h w (List.mem_cons_of_mem _ hw)]
    split
    · have : x ≠ n := by rintro rfl; exact h v List.mem_cons_self
      simp [this]
    · rfl
theorem bindC_out {kindOf : Str → Option NameKind} {x : Str} : ∀ {binds : List (Str × Value)} {m : Str → Option Value}, (∀ v, (x, v) ∉ binds) → bindC kindOf binds m x = m x
  | [], _, _ => rfl
  | (n, v) :: r, m, h => by
    unfold bindC
    rw [bindC_out fun w hw => h w (List.mem_cons_of_mem _ hw)]
    split
    · rfl
    · have : x ≠ n := by rintro rfl; exact h v List.mem_cons_self
      simp [this]
theorem bindL_get {kindOf : Str → Option NameKind} {x : Str} {v : Value} : ∀ {P : List Str} {vs : List Value} {i : Nat} {m : Str → Option Value}, P.Nodup → P[i]? = some x → vs[i]? = some v → kindOf x = some .local →
    bindL kindOf (P.zip vs) m x = some v
  | [], _, _, _, _, h, _, _ => by simp at h
  | _ :: _, [], _, _, _, _, h, _ => by simp at h
  | p :: P, w :: vs, 0, m, nd, h1, h2, hk => by
    simp at h1 h2; subst h1; subst h2
    show bindL kindOf ((p, w) :: P.zip vs) m p = _
    unfold bindL
    rw [bindL_out fun v hv => (List.nodup_cons.mp nd).1 (List.of_mem_zip hv).1, if_pos hk]
    simp
  | p :: P, w :: vs, i + 1, m, nd, h1, h2, hk => by
    show bindL kindOf ((p, w) :: P.zip vs) m x = _
    unfold bindL
    exact bindL_get (i := i) (List.nodup_cons.mp nd).2 (by simpa using h1) (by simpa using h2) hk
theorem bindC_get {kindOf : Str → Option NameKind} {x : Str} {v : Value} : ∀ {P : List Str} {vs : List Value} {i : Nat} {m : Str → Option Value}, P.Nodup → P[i]? = some x → vs[i]? = some v → kindOf x ≠ some .local →
    bindC kindOf (P.zip vs) m x = some v
  | [], _, _, _, _, h, _, _ => by simp at h
  | _ :: _, [], _, _, _, _, h, _ => by simp at h
  | p :: P, w :: vs, 0, m, nd, h1, h2, hk => by
    simp at h1 h2; subst h1; subst h2
    show bindC kindOf ((p, w) :: P.zip vs) m p = _
    unfold bindC
    rw [bindC_out fun v hv => (List.nodup_cons.mp nd).1 (List.of_mem_zip hv).1, if_neg hk]
    simp
  | p :: P, w :: vs, i + 1, m, nd, h1, h2, hk => by
    show bindC kindOf ((p, w) :: P.zip vs) m x = _
    unfold bindC
    exact bindC_get (i := i) (List.nodup_cons.mp nd).2 (by simpa using h1) (by simpa using h2) hk
def start (N : List Str) (vs : List V) : St := vs.map some ++ List.replicate (N.length - vs.length) none
def cxOf (CX : CXT) (P : Program) (w : World) (K : PySem.W.Frag) (mg : Str → Option Value) (base : Heap) (N : List Str) (qual : Str) (scope : Scope) (f : Addr) (cd : Value) (A : Around) (outer : List Env) (s : Shared) (H : Hp) (E : XK) : Cx where
  prog := P
  w := w
  K := K
  mg := mg
  base := base
  A := A.deeper (envOfC qual scope s.heap.objs.size f cd)
  N := N
  s₀ := s
  H₀ := H
  env := envOfC qual scope s.heap.objs.size f cd
  outer := outer
  stack := envOfC qual scope s.heap.objs.size f cd :: outer
  ex := []
  calm := true
  fn := fun _ => true
  pn := []
  xe := fun e s' => wpAny (model P w) (A.deeper (envOfC qual scope s.heap.objs.size f cd)) (leaving (envOfC qual scope s.heap.objs.size f cd) e) (fun _ s'' => CX outer H s E e s'') (fun e' s'' => CX outer H s E e' s'') s'
theorem cell_has {sc : Scope} {n : Nat} {x : Str} (h : sc.names.lookup x = some .cell) : ∃ c, (cellsFrom n sc.names []).lookup x = some c := by
  have q := PySem.W.cellsFrom_some sc.names n [] (.inl h)
  exact Option.isSome_iff_exists.mp q
theorem inv_start {CX : CXT} {P : Program} {w : World} {K : PySem.W.Frag} {mg : Str → Option Value} {base : Heap} {N ps : List Str} {qual : Str} {scope : Scope} {f : Addr} {cd : Value} {A : Around} {outer : List Env} {s s1 : Shared} {H : Hp} {E : XK} {us : List Value} {vs : List V}
    (S : FnScope N ps scope) (hd : A.handled = none) (e0 : Env0 P w K mg base A outer s H) (hl : vs.length = ps.length) (r : Vals vs us)
    (x : InCallC s s.heap.objs.size (bindL (envOfC qual scope s.heap.objs.size f cd).kindOf (ps.zip us) fun _ => none) (cellsFrom (s.heap.objs.size + 1) scope.names []) (bindC (envOfC qual scope s.heap.objs.size f cd).kindOf (ps.zip us) fun _ => none) s1) :
    Inv (cxOf CX P w K mg base N qual scope f cd A outer s H E) [] (start N vs) H s1 := by
  have hpl : ps.length ≤ N.length := by have := congrArg List.length S.pre; rw [List.length_take] at this; omega
  obtain ⟨h1, tk, rfl, hk⟩ := x.done
  have noA : ∀ b : Addr, b ∉ (cxOf CX P w K mg base N qual scope f cd A outer s H E).ex := fun b z => absurd (show b ∈ ([] : List Addr) from z) (by simp)
  refine ⟨⟨e0.mod, S.kind, rfl, rfl, Nat.le_refl _, fun y z c h1 h2 => ?_, fun y hy => ?_, fun y c _ h => ?_, fun _ => hd, Around.frames_deeper e0.frames, .inr ⟨rfl, rfl⟩, fun b z => absurd z (noA b), e0.bs, e0.bsz, fun b _ _ => noA b, fun b z => absurd z (noA b), e0.funs, e0.frf⟩,
    rfl, e0.bare, Un.kept hk, ⟨_, x.toInCall.ns, fun i y v h1 h2 h3 => ?_⟩, fun y c h => ⟨_, x.cell y c h⟩, e0.hok.fresh (Nat.le_refl _), fun y c h => ?_, fun p hp => absurd (show p ∈ ([] : List (Addr × Obj)) from hp) (by simp), e0.hok.kept hk, ?_⟩
  · exact name_of_addr x.apart (PySem.mem_of_lookup h1) (PySem.mem_of_lookup h2)
  · have hy : scope.names.lookup y = some .cell ∨ scope.names.lookup y = some .free := hy
    rcases hy with hy | hy
    · exact cell_has hy
    · exact absurd rfl (S.nofree _ (PySem.mem_of_lookup hy))
  · exact Nat.le_of_lt (x.above y c (PySem.mem_of_lookup h))
  · have hi : i < vs.length := by
      unfold start at h2
      by_cases hi : i < vs.length
      · exact hi
      · rw [List.getElem?_append_right (by simpa using hi)] at h2
        rw [List.getElem?_replicate] at h2
        split at h2 <;> cases h2
    have ha : vs[i]? = some v := by
      unfold start at h2
      rw [List.getElem?_append_left (by simpa using hi), List.getElem?_map] at h2
      cases e : vs[i]? with
      | none => rw [e] at h2; cases h2
      | some a => rw [e] at h2; cases h2; rfl
    obtain ⟨u, hu, rv⟩ := r.get ha
    have hp : ps[i]? = some y := by
      rw [← S.pre, List.getElem?_take_of_lt (by omega)]; exact h1
    have ndP : ps.Nodup := by rw [← S.pre]; exact S.nd.sublist (List.take_sublist _ _)
    refine ⟨u, rv, ?_⟩
    rcases S.par y (List.mem_of_getElem? hp) with k | k
    · exact .inl ⟨k, bindL_get ndP hp hu k⟩
    · obtain ⟨c, e⟩ := cell_has (n := s.heap.objs.size + 1) k
      refine .inr ⟨.inl k, c, e, ?_⟩
      have q := x.cell y c e
      rw [bindC_get ndP hp hu (by show scope.names.lookup y ≠ _; rw [k]; decide)] at q
      exact q
  · exact e0.hok.fresh (Nat.le_of_lt (x.above y c (PySem.mem_of_lookup h)))
  · unfold start
    show _ = N.length
    rw [List.length_append, List.length_map, List.length_replicate]
    omega
theorem fn_of {CX : CXT} {P : Program} {w : World} {K : PySem.W.Frag} {mg : Str → Option Value} {base : Heap} {k : Nat} {f : Addr} {name qual : Str} {params : Arguments} {body : List Stmt} {scope : Scope} {dV kV doc pm cdv ct oc : Value} {an od : Option Addr}
    {osl : Array (Option Value)} {N ps : List Str} {sp : Sp} (lk : K.lookup f = some ⟨oc, od, .func (PySem.W.fnOf name qual params body scope dV kV doc pm an cdv ct), osl⟩) (hcd : PySem.W.codeIn K cdv qual = true) (S : FnScope N ps scope)
    (len : ∀ vs H Q E, sp vs H Q E → vs.length = ps.length)
    (hbody : ∀ (A : Around) (outer : List Env) (s : Shared) (H : Hp) (vs : List V) (Q : VK) (E : XK), Room k (A.deeper (envOfC qual scope s.heap.objs.size f cdv)) → sp vs H Q E →
      ∃ t, PSs (cxOf CX P w K mg base N qual scope f cdv A outer s H E) body t ∧ t { nx := fun _ H' => Q .non H', rt := Q } (start N vs) H) :
    FnOk P w K mg base CX (k + 1) f (PySem.W.fnOf name qual params body scope dV kV doc pm an cdv ct) ps sp := by
  refine ⟨len, fun A outer s H args us vs Q E hr e0 hb r hsp => ?_⟩
  have hl := len _ _ _ _ hsp
  have KX : K.In s.heap := e0.mod.kin.keeps fun b o e => (e0.bs b o e).1
  have lim : s.heap.NoLimit := e0.mod.nolimit.keeps fun b o e => (e0.bs b o e).1
  have hkind : ∀ y ∈ ps.zip us, scope.names.lookup y.1 = some .local ∨ (scope.names.lookup y.1 = some .cell ∧ ((cellsFrom (s.heap.objs.size + 1) scope.names []).lookup y.1).isSome = true) := fun ⟨n, v⟩ hy => by
    rcases S.par n (List.of_mem_zip hy).1 with q | q
    · exact .inl q
    · exact .inr ⟨q, PySem.W.cellsFrom_some _ _ _ (.inl q)⟩
  refine codeAny_call_function hr.depth (KX _ _ lk) rfl S.co S.gen rfl (PySem.W.codeRec_of KX hcd) (hb _ _ _ _ ?_)
  refine wpAny_newFunctionEnv_cells S.kind hkind fun env he s1 x => ?_
  subst he
  refine ⟨lim.keeps x.toInCall.keep, codeAny_func ?_⟩
  obtain ⟨t, ht, hq⟩ := hbody A outer s H vs Q E (hr.deeper _) hsp
  have I : Inv (cxOf CX P w K mg base N qual scope f cdv A outer s H E) [] (start N vs) H s1 := inv_start S hr.hd e0 hl r x
  refine wpAny_mono (ht [] s1 (start N vs) H _ I hq) (fun fl s' hs => ?_) fun e s' hs => hs
  have fin : ∀ {σ' : St} {H' : Hp} {v : V} {u : Value}, Inv (cxOf CX P w K mg base N qual scope f cdv A outer s H E) [] σ' H' s' → RelV v u → Q v H' → CE outer P w H s Q u s' :=
    fun {σ' H' v u} J rv q => ⟨v, H', J.os, J.bare, J.base, J.hok, rv, q⟩
  cases fl with
  | ret u =>
    obtain ⟨v, σ', H', J, rv, q⟩ := hs
    exact fin J rv q
  | next =>
    obtain ⟨σ', H', J, q⟩ := hs
    exact fin (v := V.non) (u := Value.none) J rfl q
  | brk =>
    obtain ⟨_, _, _, q⟩ := hs
    exact False.elim q
  | cont =>
    obtain ⟨_, _, _, q⟩ := hs
    exact False.elim q
end L2
namespace L2
open PySem PySem.Spec PyProof.Rows
section
variable {X : Cx} {x : Str} {p pos : Pos} {e : Expr} {es : List Expr} {t : TA} {id T : String} {r : List V → Hp → VK → Prop}
def tCB (r : List V → Hp → VK → Prop) (t : TA) : TE := fun σ H Q => t σ H fun vs H1 => r vs H1 Q
theorem pe_callB (hc : CallR X (.builtin id) r) (hg : Gl X x) (hm : X.mg x = none) (hv : bootBuiltins x = some (.builtin id)) (ha : PA X (e :: es) t) (hn : x ≠ "__name__" := by decide) (hdb : (x == ("__debug__" : Str)) = false := by decide)
    (he : starEach (e :: es) X.env = (false, eval e X.env) :: starEach es X.env := by rfl) (hpl : (backTo pos (starEach es X.env)).any (·.1) = false := by rfl) : PE X (.Call (.Name x p) (e :: es) [] pos) (tCB r t) := by
  intro pins s σ H Q I h
  refine wpAny_Call_Name_kw (ld_blt I hg hm hv ?_ hn hdb)
  exact PyProof.Rows.callWith_builtin1 (thn (ha pos pins s σ H _ I h) fun us s1 ⟨vs, H1, I1, r1, q1⟩ => hc pins s1 σ H1 vs us Q I1 r1 q1) he hpl
theorem pe_callTy (hc : CallR X (.type T) r) (hg : Gl X x) (hm : X.mg x = none) (hv : bootBuiltins x = some (.type T)) (ha : PA X (e :: es) t) (hn : x ≠ "__name__" := by decide) (hdb : (x == ("__debug__" : Str)) = false := by decide)
    (he : starEach (e :: es) X.env = (false, eval e X.env) :: starEach es X.env := by rfl) (hpl : (backTo pos (starEach es X.env)).any (·.1) = false := by rfl) : PE X (.Call (.Name x p) (e :: es) [] pos) (tCB r t) := by
  intro pins s σ H Q I h
  refine wpAny_Call_Name_kw (ld_blt I hg hm hv ?_ hn hdb)
  exact PyProof.Rows.callWith_type1 (thn (ha pos pins s σ H _ I h) fun us s1 ⟨vs, H1, I1, r1, q1⟩ => hc pins s1 σ H1 vs us Q I1 r1 q1) he hpl
end
end L2
namespace HT
open PySem PyProof.Rows
section
open PySem.SeqAt
open PySem.AutoSeq1 (wpAny_loadPart')
open PySem.MeetsSeq PySem.MeetsSeq2 PySem.MeetsSeq3
end
section
variable {prog : Program} {w : World} {A : Around} {E : Value → Shared → Prop} {s : Shared}
theorem cat_tup {t b : Addr} {vs ws : List Value} {Q : Value → Shared → Prop} (ht : IsTup s.heap t vs.toArray) (hb : IsTup s.heap b ws.toArray) (hv : vs ≠ [])
    (h1 : ws = [] → Q (.ref t) s) (h2 : ws ≠ [] → Q (.ref s.heap.objs.size) { s with heap := s.heap.push { cls := .type "tuple", data := .seq (vs ++ ws).toArray } })
    (hsz : vs.length + ws.length ≤ sizeLine) : wpAny (model prog w) A (binaryOp .Add (.ref t) (.ref b)) Q E s := by
  obtain ⟨⟨cls, dd, data, sl⟩, ho, hc, n, hd⟩ := id ht
  obtain ⟨⟨cls2, dd2, data2, sl2⟩, ho2, hc2, n2, hd2⟩ := id hb
  simp only at hc hd hc2 hd2
  subst hc hd hc2 hd2
  have e : vs.toArray ++ ws.toArray = (vs ++ ws).toArray := by simp
  by_cases hw : ws = []
  · exact concat_meets ⟨_, ho, rfl⟩ ⟨_, ho2, rfl⟩ noFill_tuple_add seq_tuple_add PySem.F.slot_tuple_add PySem.F.entry_tuple_add (PySem.F.args_tuple_add_2 _ _)
      (tuple_addW1 t b vs.toArray ws.toArray n n2 dd dd2 sl sl2 (by simpa using hv) (by simp [hw])) ⟨ho, ho2, h1 hw⟩
  · refine concat_meets ⟨_, ho, rfl⟩ ⟨_, ho2, rfl⟩ noFill_tuple_add seq_tuple_add PySem.F.slot_tuple_add PySem.F.entry_tuple_add (PySem.F.args_tuple_add_2 _ _)
      (tuple_addW2 t b vs.toArray ws.toArray n n2 dd dd2 sl sl2 (by simpa using hv) (by simpa using hw) (by rw [List.size_toArray, List.size_toArray]; exact hsz)) ⟨ho, ho2, ?_⟩
    rw [e]
    exact h2 hw
def sIx (n d : Nat) : Option Int → Nat
  | none => d
  | some v => if v < 0 then (v + (n : Int)).toNat else min v.toNat n
theorem sIx_none (n d : Nat) : sIx n d none = d := rfl
theorem sIx_nat (n d k : Nat) : sIx n d (some (k : Int)) = min k n := by
  show (if (k : Int) < 0 then ((k : Int) + (n : Int)).toNat else min (k : Int).toNat n) = min k n
  rw [if_neg (by omega), Int.toNat_natCast]
theorem sIx_le (n d : Nat) (hd : d ≤ n) (o : Option Int) : sIx n d o ≤ n := by
  cases o with
  | none => exact hd
  | some v =>
    show (if v < 0 then (v + (n : Int)).toNat else min v.toNat n) ≤ n
    by_cases hv : v < 0
    · rw [if_pos hv]; omega
    · rw [if_neg hv]; exact Nat.min_le_right _ _
theorem clip_eq (v : Int) (n d : Nat) : (if v < 0 then max (v + (n : Int)) 0 else min v (n : Int)) = ((sIx n d (some v) : Nat) : Int) := by
  show (if v < 0 then max (v + (n : Int)) 0 else min v (n : Int)) = (((if v < 0 then (v + (n : Int)).toNat else min v.toNat n) : Nat) : Int)
  by_cases hv : v < 0
  · simp only [if_pos hv]; omega
  · simp only [if_neg hv]; omega
theorem adjust_gen (lo hi : Option Int) (n : Nat) : Builtin.Slice.sliceAdjust lo hi 1 (n : Int) = (((sIx n 0 lo : Nat) : Int), ((sIx n n hi : Nat) : Int)) := by
  have h1 : ¬ ((1 : Int) < 0) := by omega
  unfold Builtin.Slice.sliceAdjust
  simp only [h1, if_false]
  refine Prod.ext ?_ ?_
  · cases lo with
    | none => rfl
    | some v => exact clip_eq v n 0
  · cases hi with
    | none => rfl
    | some v => exact clip_eq v n n
theorem places_gen (i j : Nat) : Builtin.Slice.slicePlaces (i : Int) (j : Int) 1 = j - i := by
  unfold Builtin.Slice.slicePlaces
  have h1 : (1 : Int) > 0 := by omega
  simp only [h1, if_true, Int.ediv_one]
  split <;> omega
theorem slicePart_ {v : Value} {o : Option Int} {Q : Option Int → Shared → Prop} (p : IsPart v o) (h : Q o s) : wpAny (model prog w) A (Builtin.Slice.slicePartIndex v) Q E s := by
  cases p with
  | none => exact slicePart_none h
  | int i t => exact slicePart_int h
theorem sliceApplied_gen {sl : Addr} {vl vu : Value} {lo hi : Option Int} {n : Nat} {Q : Int × Int × Nat → Shared → Prop} (hs : s.heap.IsSliceOf sl vl vu .none) (pl : IsPart vl lo) (pu : IsPart vu hi)
    (h : Q (((sIx n 0 lo : Nat) : Int), 1, sIx n n hi - sIx n 0 lo) s) : wpAny (model prog w) A (Builtin.Slice.sliceApplied (.ref sl) (pure (n : Int))) Q E s := by
  obtain ⟨os, hos, hcs, hds⟩ := id hs
  unfold Builtin.Slice.sliceApplied Builtin.Slice.sliceFields
  refine wpAny_bind (wpAny_bind (wpAny_field hos hds (x := vl) rfl (wpAny_bind (wpAny_field hos hds (x := vu) rfl (wpAny_bind (wpAny_field hos hds (x := .none) rfl (wpAny_pure ?_)))))))
  refine wpAny_bind (slicePart_none ?_)
  show wpAny _ _ (if ((1 : Int) == 0) = true then _ else _) _ _ s
  rw [if_neg (by decide)]
  refine wpAny_bind (slicePart_ pl (wpAny_bind (slicePart_ pu (wpAny_bind (wpAny_pure ?_)))))
  show wpAny _ _ (match Builtin.Slice.sliceAdjust lo hi 1 (n : Int) with | (lo, hi) => pure (lo, (1 : Int), Builtin.Slice.slicePlaces lo hi 1)) _ _ s
  rw [adjust_gen lo hi n]
  show wpAny _ _ (pure (((sIx n 0 lo : Nat) : Int), (1 : Int), Builtin.Slice.slicePlaces ((sIx n 0 lo : Nat) : Int) ((sIx n n hi : Nat) : Int) 1)) _ _ s
  rw [places_gen]
  exact wpAny_pure h
theorem pick_gen (xs : Array Value) (i k : Nat) : ((List.range k).filterMap fun (m : Nat) => xs[((i : Int) + (m : Int) * 1).toNat]?).toArray = ((xs.toList.drop i).take k).toArray := by
  have e : (fun (m : Nat) => xs[((i : Int) + (m : Int) * 1).toNat]?) = fun m => xs[i + m]? := by
    funext m
    have : ((i : Int) + (m : Int) * 1).toNat = i + m := by omega
    rw [this]
  rw [e]
  have := pick_run xs i k
  rw [List.filterMap_map] at this
  have e2 : ((fun x => xs[x]?) ∘ fun x => i + x) = fun m => xs[i + m]? := rfl
  rw [e2] at this
  rw [this]
theorem getItem_tuple_cut {t sl : Addr} {items : Array Value} {vl vu : Value} {lo hi : Option Int} {Q : Value → Shared → Prop} (ht : IsTup s.heap t items) (hs : s.heap.IsSliceOf sl vl vu .none) (pl : IsPart vl lo) (pu : IsPart vu hi)
    (hw : ¬ (sIx items.size 0 lo = 0 ∧ sIx items.size items.size hi = items.size))
    (h : Q (.ref s.heap.objs.size) { s with heap := s.heap.push { cls := .type "tuple", data := .seq ((items.toList.drop (sIx items.size 0 lo)).take (sIx items.size items.size hi - sIx items.size 0 lo)).toArray } })
    (hsz : items.size ≤ sizeLine) : wpAny (model prog w) A (getItem (.ref t) (.ref sl)) Q E s := by
  have htake : sizeOk (.seq ((items.toList.drop (sIx items.size 0 lo)).take (sIx items.size items.size hi - sIx items.size 0 lo)).toArray) := by
    show ((items.toList.drop (sIx items.size 0 lo)).take (sIx items.size items.size hi - sIx items.size 0 lo)).toArray.size ≤ sizeLine
    rw [List.size_toArray, List.length_take, List.length_drop, Array.length_toList]
    omega
  have hj : sIx items.size items.size hi ≤ items.size := sIx_le _ _ (Nat.le_refl _) hi
  obtain ⟨os, hos, hcs, hds⟩ := id hs
  have hTs : s.TypeIs (.ref sl) "slice" := ⟨os, hos, hcs⟩
  unfold getItem
  try with_reducible refine wpAny_holding ?_
  first | refine wpAny_bind (wpAny_pure ?_) | skip
  refine wpAny_bind (wpAny_sequenceKey ht.typeIs (by decide) ?_)
  refine wpAny_bind (wpAny_callSpecial?_slot (name := Str.ofString "__getitem__") ht.typeIs PyProof.Rows.slot_tuple_getitem
    (wpAny_call_entry PyProof.Rows.slot_tuple_getitem ht.typeIs entry_tuple_getitem ?_ (args_tuple_getitem _ _)))
  show wpAny _ _ (Builtin.Tuple.tupleItemsOf (.ref t) >>= _) _ _ s
  refine wpAny_bind (tupleItemsOf_ ht ?_)
  refine wpAny_bind (wpAny_typeOf hTs ?_)
  rw [if_pos (by decide)]
  refine wpAny_bind (sliceApplied_gen hs pl pu ?_)
  have hno : ¬ ((((sIx items.size 0 lo : Nat) : Int) == 0 && (1 : Int) == 1 && (sIx items.size items.size hi - sIx items.size 0 lo) == items.size) = true) := by
    intro q
    rw [Bool.and_eq_true, Bool.and_eq_true] at q
    have q1 : ((sIx items.size 0 lo : Nat) : Int) = 0 := eq_of_beq q.1.1
    have q2 : sIx items.size items.size hi - sIx items.size 0 lo = items.size := eq_of_beq q.2
    exact hw ⟨by omega, by omega⟩
  show wpAny _ _ (if (((sIx items.size 0 lo : Nat) : Int) == 0 && (1 : Int) == 1 && (sIx items.size items.size hi - sIx items.size 0 lo) == items.size) = true then _ else _) _ _ s
  rw [if_neg hno, pick_gen]
  first
    | exact wpAny_bind (m := Builtin.Tuple.tupleExact _) (wpAny_newObj_type (wpAny_pure ⟨_, rfl, wpAny_pure h⟩) htake)
    | exact wpAny_bind (m := Builtin.Tuple.tupleExact _) (wpAny_newObj_type (wpAny_bind (wpAny_pure (wpAny_pure ⟨_, rfl, wpAny_pure h⟩))) htake)
    | exact wpAny_bind (wpAny_bind (m := Builtin.Tuple.tupleExact _) (wpAny_newObj_type (wpAny_pure (wpAny_pure ⟨_, rfl, wpAny_pure h⟩)) htake))
    | exact wpAny_bind (wpAny_bind (m := Builtin.Tuple.tupleExact _) (wpAny_newObj_type (wpAny_pure ⟨_, rfl, wpAny_pure h⟩) htake))
end
end HT
namespace L2
open PySem PySem.Spec PyProof.Rows
abbrev TO := St → Hp → (Option Int → Hp → Prop) → Prop
def PO (X : Cx) (e : Option Expr) (t : TO) : Prop :=
  ∀ (pins : List (Addr × Obj)) (s : Shared) (σ : St) (H : Hp) (Q : Option Int → Hp → Prop), Inv X pins σ H s → t σ H Q →
    wpAny (model X.prog X.w) X.A (evalPart e X.env) (fun u s' => ∃ o H', Inv X pins σ H' s' ∧ IsPart u o ∧ Q o H') X.xe s
def tNoPart : TO := fun _ H Q => Q none H
def tPart (t : TE) : TO := fun σ H Q => t σ H fun x H1 => ∃ i, x = .int i ∧ Q (some i) H1
theorem intsAre_of {ns : List Int} : ∀ {us : List Value}, Vals (ns.map V.int) us → IntsAre us ns := by
  induction ns with
  | nil => intro us r; rw [List.map_nil] at r; cases r; exact .nil
  | cons n ns ih =>
    intro us r
    rw [List.map_cons] at r
    cases r with
    | cons r1 r2 =>
      obtain ⟨t, e⟩ := r1
      subst e
      exact .cons n t (ih r2)
section
variable {X : Cx} {e : Expr} {te : TE} {lo hi : Option Expr} {tl th : TO} {pos p2 : Pos}
theorem po_none : PO X none tNoPart := by
  intro pins s σ H Q I h
  rw [evalPart_none]
  exact wpAny_pure ⟨none, H, I, .none, h⟩
theorem po_some (h : PE X e te) : PO X (some e) (tPart te) := by
  intro pins s σ H Q I hw
  rw [evalPart_some]
  refine thn (h pins s σ H _ I hw) fun u s1 ⟨x, H1, I1, r1, q1⟩ => ?_
  obtain ⟨i, rfl, q⟩ := q1
  obtain ⟨t, rfl⟩ := r1
  exact ⟨some i, H1, I1, .int i t, q⟩
def SlR (X : Cx) (r : V → Option Int → Option Int → Hp → VK → Prop) : Prop :=
  ∀ (pins : List (Addr × Obj)) (s : Shared) (σ : St) (H : Hp) (x : V) (v vl vu : Value) (lo hi : Option Int) (sl : Addr) (Q : VK), Inv X pins σ H s → RelV x v → s.heap.IsSliceOf sl vl vu .none → IsPart vl lo → IsPart vu hi → r x lo hi H Q →
    ∃ T id, typeLookup (.type T) "__getitem__" = pure (some (.builtin id)) ∧ s.TypeIs v T ∧ wpAny (model X.prog X.w) X.A (getItem v (.ref sl)) (EP X pins σ Q) X.xe s
def tSl (r : V → Option Int → Option Int → Hp → VK → Prop) (te : TE) (tl th : TO) : TE := fun σ H Q => te σ H fun x H1 => tl σ H1 fun l H2 => th σ H2 fun u H3 => r x l u H3 Q
theorem pe_slice {r : V → Option Int → Option Int → Hp → VK → Prop} (hr : SlR X r) (he : PE X e te) (hl : PO X lo tl) (hu : PO X hi th) : PE X (.Subscript e (.Slice lo hi none p2) pos) (tSl r te tl th) := by
  intro pins s σ H Q I h
  refine Subscript_ (thn (he pins s σ H _ I h) fun v s1 ⟨x, H1, I1, r1, q1⟩ => ?_)
  refine wpAny_Slice (thn (hl pins s1 σ H1 _ I1 q1) fun vl s2 ⟨l, H2, I2, pl, q2⟩ => thn (hu pins s2 σ H2 _ I2 q2) fun vu s3 ⟨u, H3, I3, pu, q3⟩ => ?_)
  rw [evalPart_none]
  refine wpAny_pure ?_
  have I4 : Inv X pins σ H3 { s3 with heap := s3.heap.push { cls := .type "slice", data := .fields #[vl, vu, .none] } } := I3.kept (t' := s3.toks) fun b ob q => Heap.get?_push_of_some _ q
  obtain ⟨T, id, hT, ht, hg⟩ := hr pins { s3 with heap := s3.heap.push { cls := .type "slice", data := .fields #[vl, vu, .none] } } σ H3 x v vl vu l u s3.heap.objs.size Q I4 r1 (Heap.IsSliceOf.new ..) pl pu q3
  show wpAny (model X.prog X.w) X.A (subscriptTail e (.Slice lo hi none p2) v (.ref s3.heap.objs.size)) (EP X pins σ Q) X.xe { s3 with heap := s3.heap.push { cls := .type "slice", data := .fields #[vl, vu, .none] } }
  exact tail_any (ops := [.ref s3.heap.objs.size, v]) ht hT hg (by with_unfolding_all rfl)
def cutV (xs : List V) (lo hi : Option Int) : List V := (xs.drop (HT.sIx xs.length 0 lo)).take (HT.sIx xs.length xs.length hi - HT.sIx xs.length 0 lo)
theorem cutV_length (xs : List V) (lo hi : Option Int) : (cutV xs lo hi).length ≤ xs.length := by
  unfold cutV
  rw [List.length_take, List.length_drop]
  omega
def rSlT (K : PySem.W.Frag) : V → Option Int → Option Int → Hp → VK → Prop := fun x lo hi H Q => ∃ a xs, x = .ref a ∧ SqT K H a xs ∧
  ¬ (HT.sIx xs.length 0 lo = 0 ∧ HT.sIx xs.length xs.length hi = xs.length) ∧ ∀ p, H p = none → Q (.ref p) (upd H p (.tup (cutV xs lo hi)))
theorem sl_tup : SlR X (rSlT X.K) := by
  intro pins s σ H x v vl vu lo hi sl Q I rx hs pl pu h
  obtain ⟨a, xs, rfl, hx, hw, q⟩ := h
  cases rx
  obtain ⟨its, r, ht, hz⟩ := I.tuple hx
  have hlen : its.toArray.size = xs.length := by rw [List.size_toArray]; exact r.length.symm
  refine ⟨"tuple", _, PyProof.Rows.slot_tuple_getitem.lookup, ht.typeIs, ?_⟩
  refine HT.getItem_tuple_cut ht hs pl pu (by rw [hlen]; exact hw) ?_ (by rw [hlen]; exact hz)
  rw [hlen]
  refine ⟨.ref s.heap.objs.size, _, I.laid (t' := s.toks) (o := .tup (cutV xs lo hi)) (fun b ob q => Heap.get?_push_of_some _ q) (Nat.le_refl _) ?_, rfl, q _ (I.hok.fresh (Nat.le_refl _))⟩
  exact ⟨Nat.le_trans (cutV_length xs lo hi) hz, _, (r.drop (HT.sIx xs.length 0 lo)).take (HT.sIx xs.length xs.length hi - HT.sIx xs.length 0 lo), IsTup.new _ _⟩
def rCatT (K : PySem.W.Frag) : R2 := fun x y H Q => ∃ a b xs ys, x = .ref a ∧ y = .ref b ∧ SqT K H a xs ∧ SqT K H b ys ∧ xs ≠ [] ∧ xs.length + ys.length ≤ sizeLine ∧
  (ys = [] → Q (.ref a) H) ∧ (ys ≠ [] → ∀ p, H p = none → Q (.ref p) (upd H p (.tup (xs ++ ys))))
theorem Vals.nil_iff {xs : List V} {us : List Value} (r : Vals xs us) : us = [] ↔ xs = [] := by
  cases r with
  | nil => simp
  | cons _ _ => simp
theorem op_catT : OpR X (binaryOp .Add) (rCatT X.K) := by
  intro pins s σ H x y v u Q I rx ry h
  obtain ⟨a, b, xs, ys, rfl, rfl, ha, hb, hx, hz, q1, q2⟩ := h
  cases rx
  cases ry
  obtain ⟨its, r1, p1, _⟩ := I.tuple ha
  obtain ⟨its2, r2, p2, _⟩ := I.tuple hb
  refine HT.cat_tup p1 p2 (fun z => hx (r1.nil_iff.mp z)) (fun z => ⟨.ref a, H, I, rfl, q1 (r2.nil_iff.mp z)⟩) (fun z => ?_) (by rw [← r1.length, ← r2.length]; exact hz)
  refine ⟨.ref s.heap.objs.size, _, I.laid (t' := s.toks) (o := .tup (xs ++ ys)) (fun b ob q => Heap.get?_push_of_some _ q) (Nat.le_refl _) ?_, rfl, q2 (fun w => z (r2.nil_iff.mpr w)) _ (I.hok.fresh (Nat.le_refl _))⟩
  exact ⟨by rw [List.length_append]; exact hz, _, r1.append r2, IsTup.new _ _⟩
end
end L2
namespace L2
open PySem PySem.Spec PyProof.Rows
def ixN (n : Nat) (i : Int) : Option Nat := if 0 ≤ i then (if i < n then some i.toNat else none) else if -(n : Int) ≤ i then some (i + n).toNat else none
def atI {α : Type} (xs : List α) (i : Int) : Option α := (ixN xs.length i).bind fun j => xs[j]?
theorem ixN_seq {n : Nat} {i : Int} {j : Nat} (h : ixN n i = some j) : seqIndex? i n = some j ∧ j < n ∧ -(n : Int) ≤ i ∧ i < n := by
  unfold ixN at h
  by_cases h0 : 0 ≤ i
  · rw [if_pos h0] at h
    by_cases h1 : i < n
    · rw [if_pos h1] at h
      have e : i.toNat = j := Option.some.inj h
      exact ⟨by rw [seqIndex_of h0 h1, e], by omega, by omega, h1⟩
    · rw [if_neg h1] at h; cases h
  · rw [if_neg h0] at h
    by_cases h1 : -(n : Int) ≤ i
    · rw [if_pos h1] at h
      have e : (i + n).toNat = j := Option.some.inj h
      exact ⟨by rw [seqIndex_neg (by omega) h1, e], by omega, h1, by omega⟩
    · rw [if_neg h1] at h; cases h
theorem atI_get {α : Type} {xs : List α} {i : Int} {v : α} (h : atI xs i = some v) : ∃ j, seqIndex? i xs.length = some j ∧ xs[j]? = some v ∧ j < xs.length ∧ -(xs.length : Int) ≤ i ∧ i < xs.length := by
  unfold atI at h
  cases e : ixN xs.length i with
  | none => rw [e] at h; cases h
  | some j =>
    rw [e] at h
    obtain ⟨h1, h2, h3, h4⟩ := ixN_seq e
    exact ⟨j, h1, h, h2, h3, h4⟩
theorem atI_nat {α : Type} {xs : List α} {j : Nat} {v : α} (h : xs[j]? = some v) : atI xs (j : Int) = some v := by
  have hj : j < xs.length := (List.getElem?_eq_some_iff.mp h).1
  have e : ixN xs.length (j : Int) = some j := by
    unfold ixN
    rw [if_pos (by omega), if_pos (by omega)]; simp
  unfold atI; rw [e]; exact h
def PlainIx (b : Expr) : Prop := ∀ o i, subscripted b false o i = operate [o, i] (getItem o i)
def IxR (X : Cx) (r : R2) : Prop :=
  ∀ (value slice : Expr) (pins : List (Addr × Obj)) (s : Shared) (σ : St) (H : Hp) (x y : V) (v u : Value) (Q : VK), Inv X pins σ H s → RelV x v → RelV y u → r x y H Q →
    subscripted slice false v u = operate [v, u] (getItem v u) → wpAny (model X.prog X.w) X.A (subscriptTail value slice v u) (EP X pins σ Q) X.xe s
def MtR (X : Cx) (id : String) (r : V → List V → Hp → VK → Prop) : Prop :=
  ∀ (pins : List (Addr × Obj)) (s : Shared) (σ : St) (H : Hp) (x : V) (xs : List V) (v : Value) (us : List Value) (Q : VK), Inv X pins σ H s → RelV x v → Vals xs us → r x xs H Q →
    wpAny (model X.prog X.w) X.A (call (.builtin id) (v :: us)) (EP X pins σ Q) X.xe s
section
variable {X : Cx} {a b : Expr} {ta tb : TE} {pos : Pos}
theorem pe_ix {r : R2} (hr : IxR X r) (ha : PE X a ta) (hb : PE X b tb) (hs : PlainIx b) : PE X (.Subscript a b pos) (tOp r ta tb) := by
  intro pins s σ H Q I h
  exact Subscript_ (binT ha hb I h fun v u s2 x y H2 I2 rx ry q => hr a b pins s2 σ H2 x y v u Q I2 rx ry q (hs _ _))
def rIxL (K : PySem.W.Frag) : R2 := fun x y H Q => ∃ p xs i v, x = .ref p ∧ y = .int i ∧ SqL K H p xs ∧ atI xs i = some v ∧ Q v H
def rIxT (K : PySem.W.Frag) : R2 := fun x y H Q => ∃ p xs i v, x = .ref p ∧ y = .int i ∧ SqT K H p xs ∧ atI xs i = some v ∧ Q v H
def rIxS : R2 := fun x y H Q => ∃ z i c, x = .str z ∧ y = .int i ∧ z.length ≤ sizeLine ∧ atI z.cps.toList i = some c ∧ Q (.str ⟨#[c]⟩) H
theorem ix_list : IxR X (rIxL X.K) := by
  intro value slice pins s σ H x y v u Q I rx ry h hs
  obtain ⟨p, xs, i, z, rfl, rfl, hq, he, q⟩ := h
  cases rx
  obtain ⟨t, rfl⟩ := ry
  obtain ⟨its, r, pl, hz⟩ := I.list hq
  obtain ⟨j, h1, h2, h3, h4, h5⟩ := atI_get he
  obtain ⟨w, ew, rw'⟩ := r.get h2
  have hl := r.length
  have hn := line63
  have fin : EP X pins σ Q w s := ⟨z, H, I, rw', q⟩
  by_cases h0 : 0 ≤ i
  · have hj : i.toNat = j := by
      rw [seqIndex_of h0 h5] at h1
      exact Option.some.inj h1
    exact item_listR pl.isList h0 (by omega) (by rw [hj]; simpa using ew) fin hs
  · have hj : (i + (its.toArray.size : Int)).toNat = j := by
      rw [seqIndex_neg (by omega) h4] at h1
      rw [List.size_toArray, ← hl]
      exact Option.some.inj h1
    exact subscriptTail_builtinR (x := w) pl.isList.typeIs slot_list_getitem.lookup
      (wpAny_getItem_list_neg (Q := fun r s' => r = w ∧ EP X pins σ Q r s') pl.isList (by omega) (by rw [List.size_toArray] <;> omega) (by omega) (by rw [hj]; simpa using ew) ⟨rfl, fin⟩) hs
theorem ix_tup : IxR X (rIxT X.K) := by
  intro value slice pins s σ H x y v u Q I rx ry h hs
  obtain ⟨p, xs, i, z, rfl, rfl, hq, he, q⟩ := h
  cases rx
  obtain ⟨t, rfl⟩ := ry
  obtain ⟨its, r, pl, hz⟩ := I.tuple hq
  obtain ⟨j, h1, h2, h3, h4, h5⟩ := atI_get he
  obtain ⟨w, ew, rw'⟩ := r.get h2
  have hl := r.length
  have hn := line63
  have fin : EP X pins σ Q w s := ⟨z, H, I, rw', q⟩
  exact subscriptTail_builtinR (x := w) pl.typeIs slot_tuple_getitem.lookup
    (getItem_tuple (j := j) (Q := fun r s' => r = w ∧ EP X pins σ Q r s') pl (by omega) (by omega) (by rw [List.size_toArray, ← hl]; exact h1) (by simpa using ew) ⟨rfl, fin⟩) hs
theorem ix_str : IxR X rIxS := by
  intro value slice pins s σ H x y v u Q I rx ry h hs
  obtain ⟨z, i, c, rfl, rfl, hz, he, q⟩ := h
  obtain ⟨t, rfl⟩ := rx
  obtain ⟨t', rfl⟩ := ry
  obtain ⟨j, h1, h2, h3, h4, h5⟩ := atI_get he
  have hl : z.cps.toList.length = z.length := by simp [Str.length]
  rw [hl] at h1 h4 h5
  have hn := line63
  exact tail_any (typeIs_str s z t) slot_str_getitem.lookup (getItem_str (c := c) (by
    have e1 : decide (i < -(2 ^ 63 : Int)) = false := decide_eq_false (by omega)
    have e2 : decide (i ≥ 2 ^ 63) = false := decide_eq_false (by omega)
    rw [e1, e2, Bool.or_false]) (by rw [h1]; simpa using h2) ⟨.str ⟨#[c]⟩, H, I.tok _, ⟨_, rfl⟩, q⟩) hs
theorem mapSeq_set (its : List Value) (n j : Nat) (u : Value) : Obj.mapSeq (·.setIfInBounds j u) { cls := .type "list", data := .seq its.toArray n } = { cls := .type "list", data := .seq (its.set j u).toArray n } := by
  simp [Obj.mapSeq]
theorem Inv.lst {pins : List (Addr × Obj)} {σ : St} {H : Hp} {s : Shared} {p : Addr} {xs : List V} (I : Inv X pins σ H s) (h : H p = some (.lst xs)) :
    ∃ (its : List Value) (n : Nat), Vals xs its ∧ s.heap.get? p = some { cls := .type "list", data := .seq its.toArray n } ∧ xs.length ≤ sizeLine := by
  obtain ⟨z, its, n, r, e⟩ := I.hok p _ h
  exact ⟨its, n, r, e, z⟩
theorem Inv.lstUpd {pins : List (Addr × Obj)} {σ : St} {H : Hp} {s : Shared} {p : Addr} {xs ys : List V} {its its' : List Value} {n n' : Nat} {f : Obj → Obj} (I : Inv X pins σ H s) (h : H p = some (.lst xs))
    (ho : s.heap.get? p = some { cls := .type "list", data := .seq its.toArray n }) (hf : f { cls := .type "list", data := .seq its.toArray n } = { cls := .type "list", data := .seq its'.toArray n' }) (r : Vals ys its') (hz : ys.length ≤ sizeLine) (t : Nat) :
    Inv X pins σ (upd H p (.lst ys)) { s with heap := s.heap.update p f, toks := t } := by
  have e : (s.heap.update p f).get? p = some { cls := .type "list", data := .seq its'.toArray n' } := by
    rw [Heap.get?_update_self f ho (by rw [hf] <;> rfl), hf]
  refine I.write (x := p) (e := p) (by rw [h]; trivial) (.inl rfl) (fun b u hb q => (Heap.get?_update_other _ _ (Ne.symm hb)).trans q) ⟨_, e⟩ ?_
  exact ⟨hz, its', n', r, e⟩
def rSetL : V → V → V → Hp → (Hp → Prop) → Prop := fun o i v H Q => ∃ p xs k j, o = .ref p ∧ i = .int k ∧ H p = some (.lst xs) ∧ ixN xs.length k = some j ∧ Q (upd H p (.lst (xs.set j v)))
theorem set_list : PSet X rSetL := by
  intro pins s σ H o i v ov iv u Q I ro ri rv h
  obtain ⟨p, xs, k, j, rfl, rfl, hp, hj, q⟩ := h
  cases ro
  obtain ⟨t, rfl⟩ := ri
  obtain ⟨its, n, r, ho, hz⟩ := I.lst hp
  obtain ⟨h1, h2, h3, h4⟩ := ixN_seq hj
  have hl := r.length
  have hn := line63
  have I' : Inv X pins σ (upd H p (.lst (xs.set j v))) { s with heap := s.heap.update p (Obj.mapSeq (·.setIfInBounds j u)) } :=
    I.lstUpd hp ho (mapSeq_set its n j u) (r.set rv j) (by rw [List.length_set]; exact hz) s.toks
  by_cases h0 : 0 ≤ k
  · have hk : k.toNat = j := by
      rw [seqIndex_of h0 h4] at h1
      exact Option.some.inj h1
    exact PySem.W.ki_setAt ho h0 (by omega) (by rw [List.size_toArray, ← hl]; exact h4) (by rw [hk]; exact ⟨_, I', q⟩)
  · have hk : (k + (its.toArray.size : Int)).toNat = j := by
      rw [seqIndex_neg (by omega) h3] at h1
      rw [List.size_toArray, ← hl]
      exact Option.some.inj h1
    exact PySem.W.ki_setBack ho (by omega) (by rw [List.size_toArray, ← hl]; exact h3) (by omega) (by rw [hk]; exact ⟨_, I', q⟩)
def flatV : V → Bool
  | .non => true
  | .bl _ => true
  | .int _ => true
  | .str _ => true
  | _ => false
def eqV : V → V → Bool
  | .non, .non => true
  | .bl a, .bl b => a == b
  | .bl a, .int b => (if a then 1 else 0) == b
  | .int a, .bl b => a == (if b then 1 else 0)
  | .int a, .int b => a == b
  | .str a, .str b => a == b
  | _, _ => false
theorem eqAt_V {A : Around} {s : Shared} {y x : V} {u v : Value} (ry : RelV y u) (rx : RelV x v) (fy : flatV y = true) (fx : flatV x = true) : SeqAt.EqAt A s u v (eqV y x) := by
  cases y with
  | non =>
    cases ry
    cases x with
    | non => cases rx; exact SeqAt.EqAt.same _
    | bl b => cases rx; exact SeqAt.EqAt.none_bool b
    | int b => obtain ⟨t, rfl⟩ := rx; exact SeqAt.EqAt.none_int b t
    | str b => obtain ⟨t, rfl⟩ := rx; exact SeqAt.EqAt.none_str b t
    | _ => exact absurd (show false = true from fx) Bool.false_ne_true
  | bl a =>
    cases ry
    cases x with
    | non => cases rx; exact SeqAt.EqAt.bool_none a
    | bl b => cases rx; exact SeqAt.EqAt.bool_bool a b
    | int b => obtain ⟨t, rfl⟩ := rx; exact SeqAt.EqAt.bool_int a b t
    | str b => obtain ⟨t, rfl⟩ := rx; exact SeqAt.EqAt.bool_str a b t
    | _ => exact absurd (show false = true from fx) Bool.false_ne_true
  | int a =>
    obtain ⟨t', rfl⟩ := ry
    cases x with
    | non => cases rx; exact SeqAt.EqAt.int_none a t'
    | bl b => cases rx; exact SeqAt.EqAt.int_bool a t' b
    | int b => obtain ⟨t, rfl⟩ := rx; exact SeqAt.EqAt.int_int a t' b t
    | str b => obtain ⟨t, rfl⟩ := rx; exact SeqAt.EqAt.int_str a t' b t
    | _ => exact absurd (show false = true from fx) Bool.false_ne_true
  | str a =>
    obtain ⟨t', rfl⟩ := ry
    cases x with
    | non => cases rx; exact SeqAt.EqAt.str_none a t'
    | bl b => cases rx; exact SeqAt.EqAt.str_bool a t' b
    | int b => obtain ⟨t, rfl⟩ := rx; exact SeqAt.EqAt.str_int a t' b t
    | str b => obtain ⟨t, rfl⟩ := rx; exact SeqAt.EqAt.str_str a t' b t
    | _ => exact absurd (show false = true from fx) Bool.false_ne_true
  | _ => exact absurd (show false = true from fy) Bool.false_ne_true
def eqU (x : V) (u : Value) : Bool := match u with
  | .none => eqV .non x
  | .bool b => eqV (.bl b) x
  | .int i _ => eqV (.int i) x
  | .str z _ => eqV (.str z) x
  | _ => false
theorem eqU_of {x y : V} {u : Value} (r : RelV y u) (f : flatV y = true) : eqU x u = eqV y x := by
  cases y with
  | non => cases r; rfl
  | bl b => cases r; rfl
  | int i => obtain ⟨t, rfl⟩ := r; rfl
  | str z => obtain ⟨t, rfl⟩ := r; rfl
  | _ => exact absurd (show false = true from f) Bool.false_ne_true
theorem any_eqU {x : V} : ∀ {xs : List V} {us : List Value}, Vals xs us → xs.all flatV = true → us.any (eqU x) = xs.any fun y => eqV y x
  | _, _, .nil, _ => rfl
  | y :: xs, u :: us, .cons r t, f => by
    rw [List.all_cons, Bool.and_eq_true] at f
    rw [List.any_cons, List.any_cons, eqU_of r f.1, any_eqU t f.2]
theorem mem_eqAt {A : Around} {s : Shared} {x : V} {v : Value} (rx : RelV x v) (fx : flatV x = true) : ∀ {xs : List V} {us : List Value}, Vals xs us → xs.all flatV = true → ∀ u ∈ us, SeqAt.EqAt A s u v (eqU x u)
  | _, _, .nil, _ => fun u hu => by cases hu
  | y :: xs, u :: us, .cons r t, f => fun u' hu => by
    rw [List.all_cons, Bool.and_eq_true] at f
    rcases List.mem_cons.mp hu with rfl | hu
    · rw [eqU_of r f.1]; exact eqAt_V r rx f.1 fx
    · exact mem_eqAt rx fx t f.2 u' hu
def inV (x : V) (xs : List V) : Bool := xs.any fun y => eqV y x
def rIn (K : PySem.W.Frag) (neg : Bool) : R2 := fun x y H Q => ∃ p xs, y = .ref p ∧ (SqL K H p xs ∨ SqT K H p xs) ∧ flatV x = true ∧ xs.all flatV = true ∧ Q (.bl (if neg then !inV x xs else inV x xs)) H
theorem op_notIn_seq : OpR X (compareOp .NotIn) (rIn X.K true) := by
  intro pins s σ H x y v u Q I rx ry h
  obtain ⟨p, xs, rfl, hq, fx, fs, q⟩ := h
  cases ry
  rcases hq with hq | hq
  · obtain ⟨its, r, pl, hz⟩ := I.list hq
    refine SeqAt.notIn_listAt (eqU x) pl.isList (fun w hw => mem_eqAt rx fx r fs w (by simpa using hw)) ⟨.bl _, H, I, rfl, ?_⟩
    rw [show its.toArray.any (eqU x) = its.any (eqU x) by simp, any_eqU r fs]
    exact q
  · obtain ⟨its, r, pl, hz⟩ := I.tuple hq
    refine SeqAt.notIn_tupleAt (eqU x) pl (fun w hw => mem_eqAt rx fx r fs w (by simpa using hw)) ⟨.bl _, H, I, rfl, ?_⟩
    rw [show its.toArray.any (eqU x) = its.any (eqU x) by simp, any_eqU r fs]
    exact q
theorem call_len_seq : CallR X (.builtin "len") (fun xs H Q => ∃ p ys, xs = [.ref p] ∧ (SqL X.K H p ys ∨ SqT X.K H p ys) ∧ Q (.int ys.length) H) := by
  intro pins s σ H xs us Q I r h
  obtain ⟨p, ys, rfl, hq, q⟩ := h
  obtain ⟨u, rfl, rx⟩ := vals1 r
  cases rx
  have hn := line63
  rcases hq with hq | hq
  · obtain ⟨its, r', pl, hz⟩ := I.list hq
    have hlen := r'.length
    exact Calls.call_len_list pl.isList (by simp only [List.size_toArray] <;> omega) ⟨.int ys.length, H, I.tok _, ⟨s.toks + 1, by rw [List.size_toArray, hlen]⟩, q⟩
  · obtain ⟨its, r', pl, hz⟩ := I.tuple hq
    have hlen := r'.length
    exact len_tuple pl (by simp only [List.size_toArray] <;> omega) ⟨.int ys.length, H, I.tok _, ⟨s.toks + 1, by rw [List.size_toArray, hlen]⟩, q⟩
theorem call_len_str : CallR X (.builtin "len") (fun xs H Q => ∃ z, xs = [.str z] ∧ z.length ≤ sizeLine ∧ Q (.int z.length) H) := by
  intro pins s σ H xs us Q I r h
  obtain ⟨z, rfl, hz, q⟩ := h
  obtain ⟨u, rfl, t, rfl⟩ := vals1 r
  have hn := line63
  exact len_str (by omega) ⟨.int z.length, H, I.tok _, ⟨_, rfl⟩, q⟩
theorem call_tuple_of : CallR X (.type "tuple") (fun xs H Q => ∃ p ys, xs = [.ref p] ∧ ((SqL X.K H p ys ∧ ∀ l, H l = none → Q (.ref l) (upd H l (.tup ys))) ∨ (SqT X.K H p ys ∧ Q (.ref p) H))) := by
  intro pins s σ H xs us Q I r h
  obtain ⟨p, ys, rfl, h⟩ := h
  obtain ⟨u, rfl, rx⟩ := vals1 r
  cases rx
  rcases h with ⟨hq, q⟩ | ⟨hq, q⟩
  · obtain ⟨its, r', pl, hz⟩ := I.list hq
    have hlen := r'.length
    refine call_tuple_list pl.isList (fun h' kp => ?_) (by simp only [List.size_toArray] <;> omega)
    have I1 : Inv X pins σ H { s with heap := h' } := I.kept (t' := s.toks) kp
    have I2 : Inv X pins σ (upd H h'.objs.size (.tup ys)) { s with heap := h'.push { cls := .type "tuple", data := .seq its.toArray } } :=
      I1.laid (t' := s.toks) (fun b o e => Heap.get?_push_of_some _ e) (Nat.le_refl _) (show ObjOk X.prog X.w _ _ _ (.tup ys) from ⟨hz, its, r', IsTup.new _ _⟩)
    exact ⟨.ref h'.objs.size, _, I2, rfl, q _ (I1.hok.fresh (Nat.le_refl _))⟩
  · obtain ⟨its, r', pl, hz⟩ := I.tuple hq
    exact call_tuple_same pl ⟨.ref p, H, I, rfl, q⟩
def tyV (K : PySem.W.Frag) (T : String) (x : V) (H : Hp) : Prop := match x with
  | .str _ => T = "str"
  | .int _ => T = "int"
  | .ref p => (T = "list" ∧ ∃ xs, SqL K H p xs) ∨ (T = "tuple" ∧ ∃ o, K.lookup p = some o ∧ o.cls = .type "tuple" ∧ o.dict = none) ∨
      (T = "dict" ∧ ((∃ kvs, H p = some (.dK kvs)) ∨ ∃ kvs, H p = some (.dT kvs))) ∨ (T = "set" ∧ ∃ S n, H p = some (.set S n))
  | _ => False
theorem tyV_is {pins : List (Addr × Obj)} {σ : St} {H : Hp} {s : Shared} {T : String} {x : V} {v : Value} (I : Inv X pins σ H s) (r : RelV x v) (ty : tyV X.K T x H) :
    s.TypeIs v T ∧ ∀ a, v = .ref a → ∃ ob, s.heap.get? a = some ob ∧ ob.dict = none := by
  cases x with
  | str z =>
    obtain ⟨t, rfl⟩ := r
    cases (show T = "str" from ty)
    exact ⟨typeIs_str s z t, fun _ e => nomatch e⟩
  | int i =>
    obtain ⟨t, rfl⟩ := r
    cases (show T = "int" from ty)
    exact ⟨typeIs_int s i t, fun _ e => nomatch e⟩
  | ref p =>
    cases r
    rcases ty with ⟨rfl, xs, hq⟩ | ⟨rfl, o, hk, hc, hd⟩ | ⟨rfl, hk⟩ | ⟨rfl, S, n, hk⟩
    · obtain ⟨its, _, pl, _⟩ := I.list hq
      refine ⟨pl.isList.typeIs, fun a e => ?_⟩
      cases e
      obtain ⟨o, n, e, c, hd, _⟩ := pl
      exact ⟨o, e, hd⟩
    · refine ⟨⟨o, I.kIn p o hk, hc⟩, fun a e => ?_⟩
      cases e
      exact ⟨o, I.kIn _ o hk, hd⟩
    · have z : ∃ o, s.heap.get? p = some o ∧ o.ExactDict := by
        rcases hk with ⟨kvs, hk⟩ | ⟨kvs, hk⟩
        · obtain ⟨_, _, _, _, o, _, _, e, ex, _⟩ := I.hok p _ hk
          exact ⟨o, e, ex⟩
        · exact False.elim (show ObjOk X.prog X.w H s.heap p (.dT kvs) from I.hok p _ hk)
      obtain ⟨o, e, ex⟩ := z
      refine ⟨⟨o, e, ex.1⟩, fun a e2 => ?_⟩
      cases e2
      exact ⟨o, e, ex.2.1⟩
    · obtain ⟨o, _, _, _, e, ex, _⟩ := I.hok p _ hk
      refine ⟨⟨o, e, ex.1⟩, fun a e2 => ?_⟩
      cases e2
      exact ⟨o, e, ex.2.1⟩
  | _ => exact False.elim ty
def tBM (K : PySem.W.Frag) (T : String) (r : V → List V → Hp → VK → Prop) (to : TE) (t : TA) : TE := fun σ H Q => to σ H fun x H1 => tyV K T x H1 ∧ t σ H1 fun xs H2 => r x xs H2 Q
variable {o e : Expr} {es : List Expr} {to : TE} {t : TA} {name : Str} {apos cpos : Pos} {T id : String} {r : V → List V → Hp → VK → Prop}
theorem pe_bm (pa : PlainAttrs T) (slot : Slot T name id) (hty : typeOf (.builtin id) = pure (.type "method_descriptor")) (hm : MtR X id r) (ho : PE X o to) (ha : PA X (e :: es) t)
    (hbase : attributeBase o name X.env (eval o X.env) = eval o X.env := by rfl)
    (hfew : ((backTo cpos (starEach (e :: es) X.env)).all (fun x => !x.1) && (backToKw cpos (keywordEach [] X.env)).all (fun x => x.1.isSome)
      && decide ((e :: es).length + ([] : List Keyword).length + (if ([] : List Keyword).isEmpty then 0 else 1) < 30)) = true := by rfl)
    (hline : (apos.endLine == cpos.line) = true := by rfl) (hs : starEach (e :: es) X.env = (false, eval e X.env) :: starEach es X.env := by rfl) (hplain : (backTo cpos (starEach es X.env)).any (·.1) = false := by rfl) :
    PE X (.Call (.Attribute o name apos) (e :: es) [] cpos) (tBM X.K T r to t) := by
  intro pins s σ H Q I h
  refine wpAny_Call_method_late hbase hfew hline rfl (thn (ho pins s σ H _ I h) fun v s1 ⟨x, H1, I1, r1, ty, q1⟩ => ?_)
  obtain ⟨h1, h2⟩ := tyV_is I1 r1 ty
  refine ⟨T, id, pa, slot, hty, h1, h2, ?_⟩
  have hA := ha cpos pins s1 σ H1 _ I1 q1
  rw [hs] at hA ⊢
  refine Calls.callWith_builtin (by show (false || (backTo cpos (starEach es X.env)).any (·.1)) = false; rw [hplain] <;> rfl) (Calls.evalArgs_plain ?_)
  exact thn hA fun us s2 ⟨vs, H2, I2, r2, q2⟩ => hm pins s2 σ H2 x vs v us Q I2 r1 r2 q2
/- xs.append(e), list.index on a module's tuple .. are MtR facts of 06m -/
end
end L2
namespace L2
open PySem PySem.Spec PyProof.Rows
def MtM (X : Cx) (id : String) (r : V → List V → Hp → VK → Prop) : Prop :=
  ∀ (pins : List (Addr × Obj)) (s : Shared) (σ : St) (H : Hp) (x : V) (xs : List V) (v : Value) (us : List Value) (Q : VK), Inv X pins σ H s → RelV x v → Vals xs us → r x xs H Q →
    wpAny (model X.prog X.w) X.A (call (.builtin id) (v :: us)) (EP X pins σ Q) X.xe s
theorem Vals.one : ∀ {x : V} {us : List Value}, Vals [x] us → ∃ u, us = [u] ∧ RelV x u
  | _, _, .cons r .nil => ⟨_, rfl, r⟩
theorem Vals.two : ∀ {x y : V} {us : List Value}, Vals [x, y] us → ∃ u v, us = [u, v] ∧ RelV x u ∧ RelV y v
  | _, _, _, .cons r (.cons q .nil) => ⟨_, _, rfl, r, q⟩
section
variable {X : Cx} {pins : List (Addr × Obj)} {σ : St} {H : Hp} {s : Shared} {l b : Addr} {xs ys zs : List V}
theorem Inv.lset {its its' : List Value} {n : Nat} {f : Array Value → Array Value} {t' : Nat} (I : Inv X pins σ H s) (hH : H l = some (.lst xs))
    (e : s.heap.get? l = some { cls := .type "list", data := .seq its.toArray n }) (hf : f its.toArray = its'.toArray) (hv : Vals ys its') (hz : ys.length ≤ sizeLine) :
    Inv X pins σ (upd H l (.lst ys)) { s with heap := s.heap.update l (Obj.mapSeq f), toks := t' } := by
  have q := PySem.IsL.update e f
  rw [hf] at q
  refine I.write (x := l) (e := l) (by rw [hH]; exact trivial) (.inl rfl) (fun b' u hb hu => (Heap.get?_update_other s.heap (Obj.mapSeq f) (Ne.symm hb)).trans hu) ⟨_, q⟩ ?_
  exact ⟨hz, its', _, hv, q⟩
theorem Inv.lnew {its : List Value} {t' : Nat} (I : Inv X pins σ H s) (hv : Vals ys its) (hz : ys.length ≤ sizeLine) :
    Inv X pins σ (upd H s.heap.objs.size (.lst ys)) { s with heap := s.heap.push { cls := .type "list", data := .seq its.toArray }, toks := t' } :=
  I.laid (fun _ _ q => Heap.get?_push_of_some _ q) (Nat.le_refl _) ⟨hz, its, 0, hv, Heap.get?_push_size _ rfl⟩
theorem Inv.fresh (I : Inv X pins σ H s) : H s.heap.objs.size = none := I.hok.fresh (Nat.le_refl _)
theorem Inv.lstM (I : Inv X pins σ H s) (hH : H l = some (.lst xs)) : xs.length ≤ sizeLine ∧ ∃ (its : List Value) (n : Nat), Vals xs its ∧ xs.length = its.length ∧ s.heap.get? l = some { cls := .type "list", data := .seq its.toArray n } := by
  obtain ⟨z, its, n, r, e⟩ := I.hok l _ hH
  exact ⟨z, its, n, r, r.length, e⟩
end
section
variable {X : Cx}
def rAppend : V → List V → Hp → VK → Prop := fun x vs H Q => ∃ l xs y, x = .ref l ∧ vs = [y] ∧ H l = some (.lst xs) ∧ xs.length < sizeLine ∧ Q .non (upd H l (.lst (xs ++ [y])))
theorem mt_append : MtM X "list.append" rAppend := by
  intro pins s σ H x vs v us Q I rx rv h
  obtain ⟨l, xs, y, rfl, rfl, hH, hz, q⟩ := h
  cases rx
  obtain ⟨u, rfl, ru⟩ := rv.one
  obtain ⟨z, its, n, r, hl, e⟩ := I.lstM hH
  refine call_meets F.slot_list_append ⟨_, e, rfl⟩ F.entry_list_append (F.args_list_append_2 _ _) (PySem.list_append l its.toArray n u (by rw [List.size_toArray]; omega)) ⟨e, ?_⟩
  refine ⟨.non, _, I.lset (its' := its ++ [u]) hH e (by simp) (r.append (.cons ru .nil)) ?_, rfl, q⟩
  rw [List.length_append, List.length_singleton]
  omega
def rCat : R2 := fun x y H Q => ∃ l b xs zs, x = .ref l ∧ y = .ref b ∧ H l = some (.lst xs) ∧ H b = some (.lst zs) ∧ xs.length + zs.length ≤ sizeLine ∧ ∀ p, H p = none → Q (.ref p) (upd H p (.lst (xs ++ zs)))
theorem op_cat : OpR X (binaryOp .Add) rCat := by
  intro pins s σ H x y v u Q I rx ry h
  obtain ⟨l, b, xs, zs, rfl, rfl, hH, hB, hz, q⟩ := h
  cases rx
  cases ry
  obtain ⟨z, its, n, r, hl, e⟩ := I.lstM hH
  obtain ⟨z2, its2, n2, r2, hl2, e2⟩ := I.lstM hB
  refine PySem.P.add_list e e2 ?_ (by rw [List.size_toArray, List.size_toArray]; omega)
  have ea : its.toArray ++ its2.toArray = (its ++ its2).toArray := by simp
  rw [ea]
  exact ⟨.ref _, _, I.lnew (t' := s.toks) (r.append r2) (by rw [List.length_append]; omega), rfl, q _ I.fresh⟩
end
section
variable {prog : Program} {w : World} {A : Around} {E : Value → Shared → Prop} {s : Shared}
set_option maxRecDepth 100000 in
end
section
variable {X : Cx}
end
end L2
namespace Att
open PySem PySem.W PySem.Calls PyProof.Rows
theorem ints_of_wellAll {P : Params} {h : Heap} : ∀ (ns : List Int) (vs : List Value), WellAll P h vs (ns.map WData.int) → IntsAre vs ns := by
  intro ns
  induction ns with
  | nil =>
    intro vs w
    rw [List.map_nil] at w
    cases w
    exact .nil
  | cons n ns ih =>
    intro vs w
    rw [List.map_cons] at w
    cases w with
    | cons a b =>
      cases a
      exact .cons _ _ (ih _ b)
theorem script_of {l : OpenLaw} {n : Nat} (hn : l.most = some n) {P : Params} {h : Heap} {args : List WData} {vals : List Value}
    (hpre : l.row.toRowW.claim.pre args = true) (hwl : WellAll P h vals args) :
    ∃ a vs ns, vals = [Value.ref a] ∧ args = [WData.list (ns.map WData.int)] ∧ h.get? a = some { cls := .type "list", data := .seq vs.toArray } ∧ IntsAre vs ns ∧ ns.length ≤ n := by
  have hsh : WShape.hasAll [] args [.list .int] = true := (pre_splitW hpre).1
  have hc : l.pre.holds [] { args := args } = true := (pre_splitW hpre).2
  obtain ⟨d, r, rfl, h1, h2⟩ := hasAllW_cons hsh
  obtain rfl := hasAllW_nil h2
  obtain ⟨xs, rfl, h3⟩ := hasW_list h1
  obtain ⟨ns, rfl⟩ := items_int h3
  have hlen : ns.length ≤ n := by
    unfold OpenLaw.pre at hc
    have h4 : (WTm.not (.lt (.lit (.int (n : Int))) (.len (.arg 0)))).holds [] { args := [.list (ns.map .int)] } = true := by
      have h4 := (holds_andW hc).1
      rw [hn] at h4
      exact h4
    have h5 := condW_of h4 (w_not (w_lt w_lit (w_len_list (w_arg rfl))))
    rw [List.length_map] at h5
    refine Nat.le_of_not_lt fun q => ?_
    have q' : (n : Int) < ((ns.length : Nat) : Int) := by omega
    first
      | (rw [decide_eq_true q'] at h5; exact absurd h5 (by decide))
      | (simp at h5; omega)
  cases hwl with
  | cons w1 w2 =>
    cases w2
    cases w1 with
    | list ho hall => exact ⟨_, _, ns, rfl, rfl, ho, ints_of_wellAll ns _ hall, hlen⟩
theorem post_true (l : OpenLaw) (args : List WData) : l.row.toRowW.claim.post args (.bool true) args = true :=
  postW_of (r := l.row.toRowW) (X := (true == true))
    (show WShape.has [] (.bool true) .bool = true by first | rfl | decide | simp [WShape.has, WShape.arms, WShape.armsAll])
    (show (WTm.eq .res (.lit (.bool true))).value [] { args := args, res := some (.bool true), after := args } = some (.bool (true == true)) from w_eq_bool (w_res rfl) w_lit) rfl
section
variable {prog : Program} {w : World} {A : Around} {E : Value → Shared → Prop} {s : Shared} {K : Frag}
end
end Att
namespace L2
open PySem PySem.Spec PyProof.Rows
theorem vals_ints : ∀ {vs : List Value} {ns : List Int}, IntsAre vs ns → Vals (ns.map V.int) vs
  | _, _, .nil => .nil
  | _, _, .cons n t h => .cons ⟨t, rfl⟩ (vals_ints h)
def Only (H : Hp) : Prop := ∀ b, H b = none ∨ ∃ o xs, H b = some (.frz o (.lst xs))
theorem law_call {P : Program} {w : World} {K : PySem.W.Frag} {mg mb : Str → Option Value} {CX : CXT} {k : Nat} {fa a : Addr} {fd : FuncData} {x : Str} {sp : Sp} {s₁ : Shared} {vs : List Value} {ns : List Int}
    (KX : K.In s₁.heap) (hns : s₁.heap.Ns mainGlobals mg) (hb : s₁.heap.Ns builtinsNs mb) (hbb : ∀ x : Str, x ≠ "__name__" → mb x = bootBuiltins x) (hlim : s₁.heap.NoLimit) (hg : s₁.gens = #[])
    (ha : s₁.heap.get? a = some { cls := .type "list", data := .seq vs.toArray }) (hi : IntsAre vs ns) (hl : ns.length ≤ sizeLine) (hr : Room k callerA)
    (F : ∀ base : Heap, K.In base → base.Ns mainGlobals mg → FnOk P w K mg base CX k fa fd [x] sp) (hbind : ∀ (s : Shared) (u : Value), BindsTo s fd ⟨[u], []⟩ [(x, u)])
    (hsp : ∀ H : Hp, Only H → SqL K H a (ns.map V.int) → sp [.ref a] H (fun v _ => v = .bl true) fun _ _ _ => False)
    (hCX : ∀ H e s', CX [] H s₁ (fun _ _ _ => False) e s' → False) :
    codeAny (model P w) callerA (.call (.ref fa) ⟨[.ref a], []⟩) (fun r s' => r = .ok (.ret (.bool true)) ∧ OldK s₁.heap s'.heap ∧ s'.os = s₁.os ∧ AllBare s'.gens) s₁ := by
  have rv := vals_ints hi
  have lenV := hi.length
  -- from an abstract heap in which nothing but the script may be tracked
  have core : ∀ H : Hp, Only H → SqL K H a (ns.map V.int) → HOk P w H s₁.heap → (∀ b, H b ≠ none → b = a) → (H a ≠ none → K.lookup a = none) →
      codeAny (model P w) callerA (.call (.ref fa) ⟨[.ref a], []⟩) (fun r s' => r = .ok (.ret (.bool true)) ∧ OldK s₁.heap s'.heap ∧ s'.os = s₁.os ∧ AllBare s'.gens) s₁ := by
    intro H hO hS hok hA hK
    have base_of : ∀ {b : Addr} {o : Obj}, s₁.heap.get? b = some o → H b = none → (hidT s₁.heap H).get? b = some o := fun e n => hidT_get e n
    have noA : ∀ {b : Addr} {o : Obj} {es : Array DictEntry} {ep : Nat}, s₁.heap.get? b = some o → o.data = .dict es ep → H b = none := fun {b o es ep} e d => by
      cases q : H b with
      | none => rfl
      | some u =>
        have e' : b = a := hA b (by rw [q]; simp)
        subst e'
        rw [ha] at e; cases e
        have d' : Data.seq vs.toArray _ = Data.dict es ep := d
        cases d'
    have nsK : ∀ {b : Addr} {m : Str → Option Value}, s₁.heap.Ns b m → (hidT s₁.heap H).Ns b m := fun {b m} ⟨o, es, ep, e, d, r⟩ => ⟨o, es, ep, base_of e (noA e d), d, r⟩
    have hKb : K.In (hidT s₁.heap H) := fun b o e => base_of (KX b o e) (by
      cases q : H b with
      | none => rfl
      | some u =>
        have e' : b = a := hA b (by rw [q]; simp)
        subst e'
        rw [hK (by rw [q]; simp)] at e; cases e)
    have hM : Mod K mg (hidT s₁.heap H) := ⟨hKb, nsK hns, ⟨mb, nsK hb, hbb⟩, let ⟨mc, h1, h2⟩ := hlim; ⟨mc, nsK h1, h2⟩⟩
    have e0 : Env0 P w K mg (hidT s₁.heap H) callerA [] s₁ H := ⟨rfl, hM, fun b o e => of_hidT e, Nat.le_of_eq (hidT_size _ _), trivial, fun b hb => absurd (show b ∈ ([] : List Addr) from hb) (by simp), hok, .of_eq hg⟩
    refine codeAny_mono ((F _ hKb (nsK hns)).run callerA [] s₁ H ⟨[.ref a], []⟩ [.ref a] [.ref a] _ _ hr e0 (hbind s₁ (.ref a)) (.cons rfl .nil) (hsp H hO hS)) fun r s' h => ?_
    cases r with
    | error e => exact (hCX H e s' h).elim
    | ok fl =>
      cases fl with
      | next => exact False.elim h
      | brk => exact False.elim h
      | cont => exact False.elim h
      | ret u =>
        obtain ⟨v, H', os, bare, un, hok', r', q⟩ := h
        have q' : v = .bl true := q
        subst q'
        obtain rfl : u = Value.bool true := r'
        refine ⟨rfl, OldK.of_keep fun b o e => ?_, os, bare⟩
        cases q : H b with
        | none => exact un.keep b o e q (by intro z; exact absurd (show b ∈ ([] : List Addr) from z) (by simp)) (by simp)
        | some u =>
          rcases hO b with z | ⟨ob, xs, z⟩
          · rw [q] at z; cases z
          · have z2 := un.frzs b ob _ z
            obtain ⟨e1, _⟩ := hok b _ z
            obtain ⟨e2, _⟩ := hok' b _ z2
            rw [e] at e1; cases e1
            exact e2
  cases hk : K.lookup a with
  | some o =>
    -- the script is one of the module's own objects
    have e := KX a o hk
    rw [ha] at e
    cases e
    refine core (fun _ => none) (fun _ => .inl rfl) (.inr ⟨_, vs.toArray, _, hk, rfl, rfl, rfl, by rw [List.size_toArray, lenV]; exact hl, by simpa using rv⟩) (fun b u z => by have z' : (none : Option HO) = some u := z; cases z') (fun b z => absurd rfl z) fun z => absurd rfl z
  | none =>
    refine core (fun b => if b = a then some (.frz { cls := .type "list", data := .seq vs.toArray } (.lst (ns.map V.int))) else none) (fun b => ?_) (.inl (.inr ⟨{ cls := .type "list", data := .seq vs.toArray }, if_pos rfl⟩)) (fun b u z => ?_) (fun b z => ?_) fun _ => hk
    · by_cases hb : b = a
      · exact .inr ⟨_, _, if_pos hb⟩
      · exact .inl (if_neg hb)
    · by_cases hb : b = a
      · have z' := (if_pos hb).symm.trans z
        cases z'
        subst hb
        exact ⟨ha, by rw [List.length_map]; exact hl, vs, _, rv, ha⟩
      · have z' := (if_neg hb).symm.trans z
        cases z'
    · by_cases hb : b = a
      · exact hb
      · exact absurd (if_neg hb) z
end L2
namespace L2
open PySem PySem.Spec PyProof.Rows
end L2
/- THE LAST THEOREM (shape; LID, My.* are yours):
   My.Adr: a structure of the addresses that your layer names (classes, functions); My.Txt K t: a structure (Prop) of the equations over K;
   My.txt_mk : {K} {implicit addresses ..} (e1 : nsIn K mainGlobals "law" = some (some (.ref f))) (e2 : K.lookup f = some ⟨oc, od, .func (fnOf "law" "law" params body scope dV kV doc pm an cdv ct), sl⟩) (e3 : codeIn K cdv "law" = true) .. : ∃ t, My.Txt K t
set_option maxRecDepth 100000 in
set_option maxHeartbeats 0 in
theorem PySem.Challenge.cw_LID_holds : PySem.Challenge.rw_LID.Holds := by
  w_on; o_law; k_head; (case hw => w_witness2)
  k_fill
  refine L2.walk_of (l := PySem.Challenge.rw_LID) (n := 63) (k := 40) (x := "script") (CX := fun w => ..) (sp := fun _ => My.sp_law) rfl (by decide) rfl ⟨rfl, by decide, by decide⟩ (fun w h Y => PySem.W.kIn_of Y) ?F ?S ?C
  case F =>
    intro w mg fa h KX G hmg
    have T : ∃ t, My.Txt (L2.KOf KX) t := by
      dsimp only [L2.KOf]                          -- K must stand as «<heap const> w.params» for k_is
      refine' My.txt_mk ?e1 ?e2 ?e3 ..
      (case e1 => PySem.W.k_is)                    -- in the order: a name -> its address -> its object -> its parts
      (case e2 => PySem.W.k_is)
      ..
    obtain ⟨t, T⟩ := T
    have e0 := hmg.symm.trans (PySem.W.mg_of KX G T.law)
    cases e0                                       -- fa is the law's own address
    exact ⟨_, fun s u => .of_eq rfl, fun base kb nb => My.law_fn T kb nb⟩     -- if «.of_eq rfl» comes too early: refine' ⟨_, ?b, fun base kb nb => My.law_fn T kb nb⟩; exact fun s u => .of_eq rfl
  case S => exact fun w H a ns hl hO hS => ..
  case C => exact ..
(the tactic k_is has no namespace: write k_is) -/
namespace L2
open PySem PySem.Spec PyProof.Rows
def defArgs (s : Stmt) : Arguments := match s with
  | .FunctionDef _ a _ _ _ _ _ _ _ _ => a
  | _ => { posonlyargs := [], args := [], vararg := none, kwonlyargs := [], kw_defaults := [], kwarg := none, defaults := [] }
def defBody (s : Stmt) : List Stmt := match s with
  | .FunctionDef _ _ b _ _ _ _ _ _ _ => b
  | _ => []
def defScope (s : Stmt) : Scope := match s with
  | .FunctionDef _ _ _ _ _ _ sc _ _ _ => sc
  | _ => { kind := .function, names := [], isGenerator := false, isCoroutine := false }
abbrev CX0 : CXT := fun _ _ _ _ _ _ => False
abbrev E0 : XK := fun _ _ _ => False
theorem pass0 {X : Cx} : Passes CX0 X E0 := fun _ _ _ _ _ _ _ h => h.elim
structure Fun (K : PySem.W.Frag) (x qual : Str) (st : Stmt) (f : Addr) (fd : FuncData) : Prop where
  ex : ∃ (oc : Value) (od : Option Addr) (kV doc pm : Value) (an : Option Addr) (cdv ct : Value) (osl : Array (Option Value)),
    fd = PySem.W.fnOf x qual (defArgs st) (defBody st) (defScope st) .none kV doc pm an cdv ct ∧ K.lookup f = some ⟨oc, od, .func fd, osl⟩ ∧ PySem.W.codeIn K cdv qual = true
  kp : PySem.W.keepIn K (.ref f) = true
section
variable {P : Program} {w : World} {K : PySem.W.Frag} {mg : Str → Option Value} {base : Heap}
theorem Fun.ok {x qual : Str} {st : Stmt} {f : Addr} {fd : FuncData} {N ps : List Str} {k : Nat} {sp : Sp} (F : Fun K x qual st f fd) (S : FnScope N ps (defScope st)) (len : ∀ vs H Q E, sp vs H Q E → vs.length = ps.length)
    (hbody : ∀ (cdv : Value) (A : Around) (outer : List Env) (s : Shared) (H : Hp) (vs : List V) (Q : VK) (E : XK), Room k (A.deeper (envOfC qual (defScope st) s.heap.objs.size f cdv)) → sp vs H Q E →
      ∃ t, PSs (cxOf CX0 P w K mg base N qual (defScope st) f cdv A outer s H E).nox (defBody st) t ∧ t { nx := fun _ H' => Q .non H', rt := Q } (start N vs) H) : FnOk P w K mg base CX0 (k + 1) f fd ps sp := by
  obtain ⟨oc, od, kV, doc, pm, an, cdv, ct, osl, rfl, lk, hcd⟩ := F.ex
  refine fn_of lk hcd S len fun A outer s H vs Q E hr hsp => ?_
  obtain ⟨t, h, q⟩ := hbody cdv A outer s H vs Q E hr hsp
  exact ⟨t, h.nox, q⟩
theorem Fun.binds {x qual : Str} {st : Stmt} {f : Addr} {fd : FuncData} {ps : List Str} (F : Fun K x qual st f fd)
    (h : ∀ (kV doc pm : Value) (an : Option Addr) (cdv ct : Value) (us : List Value), us.length = ps.length → bindArgs (PySem.W.fnOf x qual (defArgs st) (defBody st) (defScope st) .none kV doc pm an cdv ct) ⟨us, []⟩ = pure (ps.zip us)) : Binds K fd ps [] := by
  obtain ⟨oc, od, kV, doc, pm, an, cdv, ct, osl, rfl, lk, hcd⟩ := F.ex
  exact .all (h kV doc pm an cdv ct)
theorem fun_mk {x qual : Str} {st : Stmt} {f : Addr} {oc : Value} {od an : Option Addr} {osl : Array (Option Value)} {kV doc pm cdv ct : Value} (l : K.lookup f = some ⟨oc, od, .func (PySem.W.fnOf x qual (defArgs st) (defBody st) (defScope st) .none kV doc pm an cdv ct), osl⟩)
    (c : PySem.W.codeIn K cdv qual = true) (k : PySem.W.keepIn K (.ref f) = true) : Fun K x qual st f (PySem.W.fnOf x qual (defArgs st) (defBody st) (defScope st) .none kV doc pm an cdv ct) := ⟨⟨oc, od, kV, doc, pm, an, cdv, ct, osl, rfl, l, c⟩, k⟩
end
section
variable {X : Cx}
theorem pv (i : Nat) {x : Str} {pos : Pos} (hN : X.N[i]? = some x := by rfl) (hv : Vis X.env.scope x := by first | exact Or.inl rfl | exact Or.inr (Or.inl rfl) | exact Or.inr (Or.inr rfl)) (hd : (x == ("__debug__" : Str)) = false := by decide)
    (hcd : (x == ("__classdict__" : Str)) = false := by decide) : PE X (.Name x pos) (tVar i) := pe_var hN hv hd hcd
end
theorem iteF {A B : Prop} (h : B) : if false = true then A else B := by
  rw [if_neg Bool.false_ne_true]
  exact h
theorem iteT {A B : Prop} (h : A) : if true = true then A else B := by
  rw [if_pos rfl]
  exact h
theorem ite2 {c A B : Prop} [Decidable c] (h1 : c → A) (h2 : ¬ c → B) : if c then A else B := by
  by_cases h : c
  · rw [if_pos h]
    exact h1 h
  · rw [if_neg h]
    exact h2 h
theorem iteNS {c A B : Prop} [Decidable c] (hc : c) (h : B) : if (!decide c) = true then A else B := by
  rw [decide_eq_true hc]
  exact iteF h
def Same (H H' : Hp) : Prop := ∀ b o, H b = some o → H' b = some o
theorem Same.refl (H : Hp) : Same H H := fun _ _ h => h
theorem Same.trans {H H1 H2 : Hp} (a : Same H H1) (b : Same H1 H2) : Same H H2 := fun c o h => b c o (a c o h)
theorem Same.free {H H' : Hp} (e : Same H H') {l : Addr} (h : H' l = Option.none) : H l = Option.none := by
  cases q : H l with
  | none => rfl
  | some o =>
    rw [e l o q] at h
    cases h
theorem Same.seq {K : PySem.W.Frag} {H H' : Hp} {a : Addr} {xs : List V} (e : Same H H') (h : SqL K H a xs) : SqL K H' a xs := by
  rcases h with (h | ⟨o, h⟩) | h
  · exact .inl (.inl (e _ _ h))
  · exact .inl (.inr ⟨o, e _ _ h⟩)
  · exact .inr h
end L2
set_option maxHeartbeats 4000000
namespace L3
open PySem PySem.Spec PyProof.Rows L2
theorem same_upd {H : Hp} {p : Addr} {o : HO} (h : H p = none) : Same H (upd H p o) := fun b u e => by
  rw [upd_ne (ne_of_none e h)]; exact e
theorem same_to {H H' : Hp} {p : Addr} {o : HO} (s : Same H H') (h : H p = none) : Same H (upd H' p o) := fun b u e => by
  rw [upd_ne (ne_of_none e h)]; exact s b u e
def newO : HO → Prop
  | .lst _ => True
  | .tup _ => True
  | _ => False
def Rst (H H' : Hp) (P : Hp → Prop) : Prop := ∃ Hr, Same H Hr ∧ Same Hr H' ∧ (∀ a o, Hr a = some o → H a = some o ∨ newO o) ∧ P Hr
theorem Rst.same {H H' : Hp} {P : Hp → Prop} (s : Same H H') (p : P H) : Rst H H' P := ⟨H, Same.refl H, s, fun _ _ e => .inl e, p⟩
theorem Rst.one {H H' : Hp} {P : Hp → Prop} {p : Addr} {o : HO} (s : Same H H') (n : H p = none) (e : H' p = some o) (no : newO o) (q : P (upd H p o)) : Rst H H' P :=
  ⟨upd H p o, same_upd n, fun b u z => by
    by_cases hb : b = p
    · subst hb; rw [upd_same] at z; cases z; exact e
    · rw [upd_ne hb] at z; exact s b u z, fun b u z => by
    by_cases hb : b = p
    · subst hb; rw [upd_same] at z; cases z; exact .inr no
    · rw [upd_ne hb] at z; exact .inl z, q⟩
section
variable {P : Program} {w : World} {H Hr H' : Hp} {h h' : Heap}
theorem objOk_rst {a : Addr} {o : HO} (s1 : Same H Hr) (x0 : ObjOk P w H h a o) (x : ObjOk P w H' h' a o) : ObjOk P w Hr h' a o := by
  induction o with
  | ins C dx fs => exact ⟨s1 _ _ x0.1, x.2⟩
  | frz ob u ih => exact ⟨x.1, ih x0.2 x.2⟩
  | lst xs => exact x
  | tup xs => exact x
  | dK kvs => exact x
  | dT kvs => exact x
  | set S n => exact x
  | own y => exact x
  | xd fs => exact x
  | rng lo hi => exact x
  | tbl ps => exact x
  | met f y => exact x
  | ext φ => exact x
theorem hok_rst (e0 : HOk P w H h) (k : HOk P w H' h') (s1 : Same H Hr) (s2 : Same Hr H') (hn : ∀ a o, Hr a = some o → H a = some o ∨ newO o) : HOk P w Hr h' := fun a o e => by
  have x := k a o (s2 a o e)
  rcases hn a o e with z | z
  · exact objOk_rst s1 (e0 a o z) x
  · cases o with
    | lst xs => exact x
    | tup xs => exact x
    | _ => exact False.elim z
theorem un_rst {fs ex : List Addr} (u : Un fs ex H H' h h') (s1 : Same H Hr) (s2 : Same Hr H') : Un fs ex H Hr h h' where
  keep := u.keep
  slot := u.slot
  free := fun b o e n hx => s2.free (u.free b o e n hx)
  there := u.there
  tups := fun b xs e => s1 b _ e
  frzs := fun b o x e => s1 b _ e
  tbls := fun b ps e => ⟨#[], by rw [s1 b _ e]; simp⟩
end
section
variable {P : Program} {w : World} {K : PySem.W.Frag} {mg : Str → Option Value} {base : Heap} {CX : CXT} {k : Nat} {f : Addr} {fd : FuncData} {ps : List Str} {sp : Sp}
def SpR (sp : Sp) : Sp := fun vs H Q2 E => ∃ Q : VK, (∀ v H', Rst H H' (Q v) → Q2 v H') ∧ sp vs H Q E
theorem FnOk.rst (F : FnOk P w K mg base CX k f fd ps (SpR sp)) : FnOk P w K mg base CX k f fd ps sp :=
  ⟨fun vs H Q E h => F.len vs H (fun v H' => Rst H H' (Q v)) E ⟨Q, fun _ _ z => z, h⟩, fun A outer s H args us vs Q E hr he hb hv hs =>
    codeAny_mono (F.run A outer s H args us vs (fun v H' => Rst H H' (Q v)) E hr he hb hv ⟨Q, fun _ _ z => z, hs⟩) fun r s' hq => by
      cases r with
      | error e => exact hq
      | ok fl =>
        cases fl with
        | ret u =>
          obtain ⟨v, H', e1, e2, e3, e4, e5, Hr, s1, s2, hn, q⟩ := hq
          exact ⟨v, Hr, e1, e2, un_rst e3 s1 s2, hok_rst he.hok e4 s1 s2 hn, e5, q⟩
        | next => exact False.elim hq
        | brk => exact False.elim hq
        | cont => exact False.elim hq⟩
theorem Fun.okR {x qual : Str} {st : Stmt} {f : Addr} {fd : FuncData} {N ps : List Str} {k : Nat} {sp : Sp} (F : Fun K x qual st f fd) (S : FnScope N ps (defScope st)) (len : ∀ vs H Q E, sp vs H Q E → vs.length = ps.length)
    (hbody : ∀ (cdv : Value) (A : Around) (outer : List Env) (s : Shared) (H : Hp) (vs : List V) (Q Q2 : VK) (E : XK), Room k (A.deeper (envOfC qual (defScope st) s.heap.objs.size f cdv)) → sp vs H Q E → (∀ v H', Rst H H' (Q v) → Q2 v H') →
      ∃ t, PSs (cxOf CX0 P w K mg base N qual (defScope st) f cdv A outer s H E).nox (defBody st) t ∧ t { nx := fun _ H' => Q2 .non H', rt := Q2 } (start N vs) H) : FnOk P w K mg base CX0 (k + 1) f fd ps sp :=
  FnOk.rst (F.ok S (fun vs H Q2 E ⟨Q, _, h⟩ => len vs H Q E h) fun cdv A outer s H vs Q2 E hr ⟨Q, hq, h⟩ => hbody cdv A outer s H vs Q Q2 E hr h hq)
end
end L3
namespace L3
open PySem PySem.Spec PyProof.Rows L2
abbrev NE : Value → Shared → Prop := fun _ _ => False
def PTs (X : Cx) (cs : List Expr) (t : TT) : Prop :=
  ∀ (pins : List (Addr × Obj)) (s : Shared) (σ : L2.St) (H : Hp) (Q : Bool → Hp → Prop), Inv X pins σ H s → t σ H Q →
    wpAny (model X.prog X.w) X.A (forIn cs true fun c r => if r = true then do let ok ← isTrue c X.env (eval c X.env); pure (ForInStep.yield ok) else pure (ForInStep.yield r)) (TP X pins σ Q) X.xe s
def tYes : TT := fun _ H Q => Q true H
theorem pts_nil {X : Cx} : PTs X [] tYes := fun _ _ _ H _ I h => wpAny_tests_nil ⟨H, I, h⟩
theorem pts_one {X : Cx} {c : Expr} {t : TT} (h : PT X c t) : PTs X [c] t := fun pins s σ H Q I q => wpAny_tests_one (h pins s σ H Q I q)
section
variable {prog : Program} {w : World} {A : Around} {R : Result → Shared → Prop} {s : Shared}
theorem compLoop_any {elt target iter : Expr} {ifs : List Expr} {scope : Scope} {pos : Pos} {it acc : Value} {env : Env} (I : Nat → Shared → Prop)
    (turn : ∀ n s, I n s → wpAny (model prog w) A (pyNext it) (fun r s₁ => match r with
      | none => R (.ok .next) s₁
      | some v => wpAny (model prog w) A (letOwnedTupleGo target it v) (fun _ s₀ => wpAny (model prog w) A (assign target env v) (fun _ s₂ =>
          wpAny (model prog w) A (forIn ifs true fun c r => if r = true then do let ok ← isTrue c env (eval c env); pure (ForInStep.yield ok) else pure (ForInStep.yield r)) (fun ok s₃ =>
            if ok = true then wpAny (model prog w) A (eval elt env) (fun x s₄ =>
              wpAny (model prog w) A (call (.builtin "list.append") [acc, x]) (fun _ s₅ => ∃ m, m < n ∧ I m s₅) NE s₄) NE s₃
            else ∃ m, m < n ∧ I m s₃) NE s₂) NE s₀) NE s₁) NE s)
    (n : Nat) (h : I n s) :
    codeAny (model prog w) A (.compLoop (.ListComp elt [⟨target, iter, ifs, 0⟩] scope pos) 0 it acc env) R s := by
  refine codeAny_loop rfl I (fun n s hI => ?_) n h
  show wpAny _ A ((compTurn (.ListComp elt [⟨target, iter, ifs, 0⟩] scope pos) 0 it acc env).onRaise (fun x => do noteFrame x env; theTreesLotGoes x)) _ _ s
  refine wpAny_noted (wpAny_mono (E := NE) ?_ (fun _ _ q => q) fun _ _ f => f.elim)
  rw [compTurn_list]
  refine wpAny_bind (wpAny_standAt (wpAny_bind (wpAny_mono (turn n s hI) (fun r s₁ h₁ => ?_) fun _ _ h' => h')))
  cases r with
  | none => exact wpAny_pure h₁
  | some v =>
    refine wpAny_bind (wpAny_mono h₁ (fun _ s₀ h₀ => ?_) fun _ _ h' => h')
    refine wpAny_bind (wpAny_mono h₀ (fun _ s₂ h₂ => wpAny_bind (wpAny_mono h₂ (fun ok s₃ h₃ => ?_) fun _ _ h' => h')) fun _ _ h' => h')
    cases ok with
    | false => exact wpAny_pure ⟨rfl, h₃⟩
    | true =>
      exact wpAny_bind (wpAny_bind (wpAny_mono h₃ (fun x s₄ h₄ => wpAny_bind (wpAny_mono h₄ (fun _ s₅ h₅ => wpAny_pure (wpAny_pure ⟨rfl, h₅⟩)) fun _ _ h' => h')) fun _ _ h' => h'))
end
theorem closure_go {env : Env} : ∀ (names : List (Str × NameKind)) (cs : List (Str × Addr)), (∀ y ∈ names, y.2 = .free → ∃ c, env.cells.lookup y.1 = some c) → (∀ x c, cs.lookup x = some c → env.cells.lookup x = some c) →
    ∃ cl, (forIn names cs (fun (y : Str × NameKind) r => if (y.2 == .free) = true then do let a ← cellOf env y.1; pure (ForInStep.yield ((y.1, a) :: r)) else pure (ForInStep.yield r)) : Sem (List (Str × Addr))) = pure cl ∧
      (∀ x c, cl.lookup x = some c → env.cells.lookup x = some c) ∧ (∀ x, (∃ c, cs.lookup x = some c) → ∃ c, cl.lookup x = some c) ∧ (∀ y ∈ names, y.2 = .free → ∃ c, cl.lookup y.1 = some c)
  | [], cs, _, h => ⟨cs, rfl, h, fun _ z => z, fun _ z => nomatch z⟩
  | y :: r, cs, hn, h => by
    by_cases hy : y.2 = .free
    · obtain ⟨c, hc⟩ := hn y List.mem_cons_self hy
      have hc' : cellOf env y.1 = pure c := by unfold cellOf; rw [hc]
      have h2 : ∀ x d, ((y.1, c) :: cs).lookup x = some d → env.cells.lookup x = some d := fun x d e => by
        rw [List.lookup_cons] at e
        by_cases hx : x = y.1
        · subst hx
          rw [show (y.1 == y.1) = true from beq_self_eq_true _] at e
          cases e
          exact hc
        · rw [show (x == y.1) = false from beq_eq_false_iff_ne.mpr hx] at e
          exact h x d e
      obtain ⟨cl, e1, e2, e3, e4⟩ := closure_go r ((y.1, c) :: cs) (fun z hz => hn z (List.mem_cons_of_mem _ hz)) h2
      refine ⟨cl, ?_, e2, fun x hx => e3 x ?_, fun z hz hf => ?_⟩
      · rw [List.forIn_cons, hy, if_pos (by decide), hc']
        exact e1
      · obtain ⟨d, hd⟩ := hx
        rw [List.lookup_cons]
        by_cases hx : x = y.1
        · exact ⟨c, by rw [show (x == y.1) = true from beq_iff_eq.mpr hx]⟩
        · exact ⟨d, by rw [show (x == y.1) = false from beq_eq_false_iff_ne.mpr hx]; exact hd⟩
      · rcases List.mem_cons.mp hz with rfl | hz
        · exact e3 z.1 ⟨c, by rw [List.lookup_cons, show (z.1 == z.1) = true from beq_self_eq_true _]⟩
        · exact e4 z hz hf
    · obtain ⟨cl, e1, e2, e3, e4⟩ := closure_go r cs (fun z hz => hn z (List.mem_cons_of_mem _ hz)) h
      refine ⟨cl, ?_, e2, e3, fun z hz hf => ?_⟩
      · rw [List.forIn_cons, if_neg (by intro q; exact hy (beq_iff_eq.mp q))]
        exact e1
      · rcases List.mem_cons.mp hz with rfl | hz
        · exact absurd hf hy
        · exact e4 z hz hf
theorem closure_ok {scope : Scope} {env : Env} (hn : ∀ y ∈ scope.names, y.2 = .free → ∃ c, env.cells.lookup y.1 = some c) :
    ∃ cl, closureFor scope env = pure cl ∧ (∀ x c, cl.lookup x = some c → env.cells.lookup x = some c) ∧ (∀ y ∈ scope.names, y.2 = .free → ∃ c, cl.lookup y.1 = some c) := by
  obtain ⟨cl, e1, e2, _, e4⟩ := closure_go (env := env) scope.names [] hn (fun x c e => by rw [List.lookup_nil] at e; cases e)
  refine ⟨cl, ?_, e2, e4⟩
  unfold closureFor
  exact (congrArg (· >>= pure) e1)
theorem relabel_back {env : Env} {x : Str} : ∀ {names : List (Str × NameKind)}, (∀ y ∈ names, y.2 ≠ .cell) →
    ((names.map fun (n, k) => if (k == NameKind.free && env.scope.kind == .function && env.kindOf n == some .cell) then (n, NameKind.cell) else (n, k)).lookup x = some .cell ∨
      (names.map fun (n, k) => if (k == NameKind.free && env.scope.kind == .function && env.kindOf n == some .cell) then (n, NameKind.cell) else (n, k)).lookup x = some .free) → names.lookup x = some .free
  | [], _, h => by rcases h with h | h <;> (rw [List.map_nil, List.lookup_nil] at h; cases h)
  | (n, k) :: r, hc, h => by
    have ih := relabel_back (env := env) (x := x) (names := r) fun y hy => hc y (List.mem_cons_of_mem _ hy)
    have hk : k ≠ .cell := hc (n, k) List.mem_cons_self
    rw [List.map_cons] at h
    rw [List.lookup_cons]
    cases hx : x == n with
    | true =>
      dsimp only
      by_cases hq : (k == NameKind.free && env.scope.kind == .function && env.kindOf n == some .cell) = true
      · rw [Bool.and_eq_true, Bool.and_eq_true] at hq
        rw [beq_iff_eq.mp hq.1.1]
      · dsimp only at h
        rw [if_neg hq] at h
        rw [List.lookup_cons, hx] at h
        dsimp only at h
        rcases h with h | h
        · exact absurd (Option.some.inj h) hk
        · exact h
    | false =>
      dsimp only
      refine ih ?_
      dsimp only at h
      by_cases hq : (k == NameKind.free && env.scope.kind == .function && env.kindOf n == some .cell) = true
      · rw [if_pos hq, List.lookup_cons, hx] at h
        exact h
      · rw [if_neg hq, List.lookup_cons, hx] at h
        exact h
theorem mem_lookup {x : Str} {k : NameKind} {l : List (Str × NameKind)} (h : l.lookup x = some k) : (x, k) ∈ l := PySem.mem_of_lookup h
def comp (X : Cx) (Nc : List Str) (scope : Scope) (cl : List (Str × Addr)) (C : Addr) (s : Shared) (H : Hp) (fp : List Addr) : Cx :=
  { X with N := Nc, s₀ := s, H₀ := H, env := compEnvC scope cl C X.env, outer := X.stack, stack := X.stack, ex := fp, fn := fun _ => false, pn := [], xe := fun _ _ => False }
def MapOk (X : Cx) (scope : Scope) : List Str → List (Option Nat) → Prop
  | [], [] => True
  | _ :: N, none :: m => MapOk X scope N m
  | x :: N, some i :: m => (X.N[i]? = some x ∧ (X.env.scope.names.lookup x = some .cell ∨ X.env.scope.names.lookup x = some .free) ∧ scope.names.lookup x = some .free) ∧ MapOk X scope N m
  | _, _ => False
theorem MapOk.len {X : Cx} {scope : Scope} : ∀ {N : List Str} {m : List (Option Nat)}, MapOk X scope N m → m.length = N.length
  | [], [], _ => rfl
  | _ :: N, none :: m, h => congrArg (· + 1) (MapOk.len (N := N) (m := m) h)
  | _ :: N, some _ :: m, h => congrArg (· + 1) (MapOk.len (N := N) (m := m) h.2)
  | [], _ :: _, h => h.elim
  | _ :: _, [], h => h.elim
theorem MapOk.at {X : Cx} {scope : Scope} {x : Str} {i : Nat} : ∀ {N : List Str} {m : List (Option Nat)} {j : Nat}, MapOk X scope N m → m[j]? = some (some i) → N[j]? = some x →
    X.N[i]? = some x ∧ (X.env.scope.names.lookup x = some .cell ∨ X.env.scope.names.lookup x = some .free) ∧ scope.names.lookup x = some .free
  | [], [], j, _, h, _ => by simp at h
  | _ :: N, none :: m, 0, _, h, _ => by simp at h
  | _ :: N, none :: m, j + 1, k, h, e => MapOk.at (N := N) (m := m) (j := j) k (by simpa using h) (by simpa using e)
  | y :: N, some i' :: m, 0, k, h, e => by
    simp at h e
    subst h; subst e
    exact k.1
  | _ :: N, some _ :: m, j + 1, k, h, e => MapOk.at (N := N) (m := m) (j := j) k.2 (by simpa using h) (by simpa using e)
  | [], _ :: _, _, h, _, _ => h.elim
  | _ :: _, [], _, h, _, _ => h.elim
def mapS (m : List (Option Nat)) (σ : L2.St) : L2.St := m.map fun o => o.bind fun i => (σ[i]?).bind id
structure CompOk (X : Cx) (scope : Scope) (Nc : List Str) (mp : List (Option Nat)) : Prop where
  kind : scope.kind = .function
  noc : ∀ y ∈ scope.names, y.2 ≠ .cell
  loc : ∀ y ∈ scope.names, y.2 = .local → scope.names.lookup y.1 = some .local
  fre : ∀ y ∈ scope.names, y.2 = .free → X.env.kindOf y.1 = some .cell ∨ X.env.kindOf y.1 = some .free
  map : MapOk X scope Nc mp
section
variable {X : Cx} {pins : List (Addr × Obj)} {σ : L2.St} {H : Hp} {s : Shared} {scope : Scope} {Nc : List Str} {mp : List (Option Nat)} {cl : List (Str × Addr)} {C : Addr} {fp : List Addr}
theorem comp_ok (I : Inv X pins σ H s) (S : CompOk X scope Nc mp) (h1 : ∀ x c, cl.lookup x = some c → X.env.cells.lookup x = some c) (h2 : ∀ y ∈ scope.names, y.2 = .free → ∃ c, cl.lookup y.1 = some c)
    (hC : s.heap.objs.size ≤ C) (hf : ∀ b ∈ fp, FpOk X pins H b) (ho : ∀ b ∈ fp, b < s.heap.objs.size) : (comp X Nc scope cl C s H fp).Ok where
  mod := I.ok.mod
  kind := S.kind
  glob := I.ok.glob
  blt := I.ok.blt
  above := hC
  inj := fun x y c e e' => I.ok.inj x y c (h1 x c e) (h1 y c e')
  has := fun x hx => by
    have q : scope.names.lookup x = some .free := relabel_back (env := X.env) S.noc hx
    exact h2 (x, .free) (mem_lookup q) rfl
  cab := fun x c hx => absurd (show false = true from hx) Bool.false_ne_true
  hd := I.ok.hd
  frames := I.ok.frames
  stk := .inl rfl
  exf := fun b hb => ⟨fun z => absurd (Nat.lt_of_lt_of_le (ho b hb) hC) (by rw [z]; exact Nat.lt_irrefl _), fun x c e => (hf b hb).2.2.2.2.1 x c (h1 x c e)⟩
  bs := I.bs
  bsz := Nat.le_trans I.ok.bsz I.sz
  noex := fun b o e hb => by
    rcases (hf b hb).2.2.2.1 with z | z
    · exact I.ok.noex b o e z
    · exact absurd (Nat.lt_of_lt_of_le (Heap.lt_size e) (Nat.le_trans I.ok.bsz z)) (Nat.lt_irrefl _)
  exfs := fun b hb z => by
    rcases List.mem_cons.mp (I.stkSub b z) with e | e
    · exact (hf b hb).2.1 e
    · exact (hf b hb).2.2.1 e
  funs := I.stack
  frf := I.stkFree
theorem comp_inv {h' : Heap} {tk : Nat} {D : Addr} {oD : Obj} (I : Inv X pins σ H s) (S : CompOk X scope Nc mp) (h1 : ∀ x c, cl.lookup x = some c → X.env.cells.lookup x = some c) (h2 : ∀ y ∈ scope.names, y.2 = .free → ∃ c, cl.lookup y.1 = some c)
    (hC : s.heap.objs.size ≤ C) (hf : ∀ b ∈ fp, FpOk X pins H b) (ho : ∀ b ∈ fp, b < s.heap.objs.size) (kp : ∀ b o, s.heap.get? b = some o → h'.get? b = some o) {m : Str → Option Value} (hn : h'.Ns C m)
    (hD : s.heap.objs.size ≤ D) (hDC : D ≠ C) (eD : h'.get? D = some oD) (dD : ∀ v, oD.data ≠ .cell v) : Inv (comp X Nc scope cl C s H fp) [(D, oD)] (mapS mp σ) H { s with heap := h', toks := tk } where
  ok := comp_ok I S h1 h2 hC hf ho
  os := rfl
  bare := I.bare
  base := Un.kept kp
  loc := by
    refine ⟨m, hn, fun j x v e1 e2 _ => ?_⟩
    have hj : (mapS mp σ)[j]? = (mp[j]?).map fun o => o.bind fun i => (σ[i]?).bind id := by unfold mapS; rw [List.getElem?_map]
    rw [hj] at e2
    cases e3 : mp[j]? with
    | none => rw [e3] at e2; cases e2
    | some o =>
      rw [e3] at e2
      cases o with
      | none => cases e2
      | some i =>
        obtain ⟨k1, k2, k3⟩ := S.map.at e3 e1
        have e4 : (σ[i]?).bind id = some v := Option.some.inj e2
        have e5 : σ[i]? = some (some v) := by
          cases q : σ[i]? with
          | none => rw [q] at e4; cases e4
          | some z => rw [q] at e4; exact congrArg some e4
        obtain ⟨m0, _, hl⟩ := I.loc
        obtain ⟨u, r, l⟩ := hl i x v k1 e5 (.inr k2)
        refine ⟨u, r, .inr ⟨?_, ?_⟩⟩
        · show (relabel scope X.env).names.lookup x = some .cell ∨ (relabel scope X.env).names.lookup x = some .free
          have go : ∀ {names : List (Str × NameKind)}, names.lookup x = some .free →
              ((names.map fun (n, k) => if (k == NameKind.free && X.env.scope.kind == .function && X.env.kindOf n == some .cell) then (n, NameKind.cell) else (n, k)).lookup x = some .cell ∨
                (names.map fun (n, k) => if (k == NameKind.free && X.env.scope.kind == .function && X.env.kindOf n == some .cell) then (n, NameKind.cell) else (n, k)).lookup x = some .free) := by
            intro names
            induction names with
            | nil => intro q; rw [List.lookup_nil] at q; cases q
            | cons y r ih =>
              obtain ⟨n, k⟩ := y
              intro q
              rw [List.lookup_cons] at q
              rw [List.map_cons]
              dsimp only
              cases hx : x == n with
              | true =>
                rw [hx] at q
                cases q
                by_cases hq : (NameKind.free == NameKind.free && X.env.scope.kind == .function && X.env.kindOf n == some .cell) = true
                · rw [if_pos hq, List.lookup_cons, hx]; exact .inl rfl
                · rw [if_neg hq, List.lookup_cons, hx]; exact .inr rfl
              | false =>
                rw [hx] at q
                by_cases hq : (k == NameKind.free && X.env.scope.kind == .function && X.env.kindOf n == some .cell) = true
                · rw [if_pos hq, List.lookup_cons, hx]; exact ih q
                · rw [if_neg hq, List.lookup_cons, hx]; exact ih q
          exact go k3
        · obtain ⟨c, hc⟩ := h2 (x, .free) (mem_lookup k3) rfl
          refine ⟨c, hc, ?_⟩
          rcases l with ⟨lk, _⟩ | ⟨_, c', hc', oc, hoc, hd⟩
          · have lk' : X.env.scope.names.lookup x = some .local := lk
            rcases k2 with k2 | k2 <;> (rw [lk'] at k2; cases k2)
          · rw [h1 x c hc] at hc'; cases hc'
            exact ⟨oc, kp _ _ hoc, hd⟩
  cell := fun x c e => by
    obtain ⟨v, o, ho', hd⟩ := I.cell x c (h1 x c e)
    exact ⟨v, o, kp _ _ ho', hd⟩
  free := I.hok.fresh hC
  freeC := fun x c e => I.freeC x c (h1 x c e)
  pin := fun p hp => by
    have e : p = (D, oD) := by
      have hp' : p ∈ ([] : List (Addr × Obj)) ++ [(D, oD)] := hp
      simpa using hp'
    subst e
    refine ⟨eD, I.hok.fresh hD, hDC, fun z => ?_, dD⟩
    rcases List.mem_cons.mp (I.stkSub D z) with e | e
    · exact absurd (Nat.lt_of_lt_of_le I.lt hD) (by rw [e]; exact Nat.lt_irrefl _)
    · exact I.nofs hD e
  hok := I.hok.kept kp
  len := by unfold mapS; rw [List.length_map]; exact S.map.len
theorem comp_out {σ' : L2.St} {H' : Hp} {s' : Shared} {h' : Heap} {D : Addr} {acc : List V} {its : List Value} {n : Nat} (I : Inv X pins σ H s) (hC : s.heap.objs.size ≤ C) (hD : s.heap.objs.size ≤ D) (hDC : D ≠ C) (hf : ∀ b ∈ fp, FpOk X pins H b)
    (J : Inv (comp X Nc scope cl C s H fp) [(D, { cls := .type "list", data := .seq its.toArray n })] σ' H' s') (hs : Heap.SameBut C s'.heap h') (hv : Vals acc its) (hz : acc.length ≤ sizeLine) :
    Inv X pins σ (upd H' D (.lst acc)) { s' with heap := h' } ∧ H' D = none := by
  obtain ⟨eD, nD, _, _, _⟩ := J.pin (D, { cls := .type "list", data := .seq its.toArray n }) (List.mem_append_right _ List.mem_cons_self)
  have nD' : H' D = none := nD
  have u : Un (frs X.stack) fp H H' s.heap s'.heap := J.base
  have neC : ∀ b o, s.heap.get? b = some o → b ≠ C := fun b o e => Nat.ne_of_lt (Nat.lt_of_lt_of_le (Heap.lt_size e) hC)
  have neD : ∀ b o, s.heap.get? b = some o → b ≠ D := fun b o e => Nat.ne_of_lt (Nat.lt_of_lt_of_le (Heap.lt_size e) hD)
  refine ⟨?_, nD'⟩
  refine I.call' (ch := fp) (s' := { s' with heap := h' }) J.os ⟨fun b o e nb hb hx => ?_, fun b o e nb hb hx => ?_, fun b o e nb hx => ?_, fun b o e hx => ?_, fun b xs e => ?_, fun b o xs e => ?_, fun b ps e => ?_⟩ (fun b o e => ?_) J.bare fun b hb => ⟨(hf b hb).2.2.2.1, (hf b hb).2.1, (hf b hb).2.2.2.2.1, (hf b hb).2.2.2.2.2⟩
  · exact (hs.2 b (neC b o e)).trans (u.keep b o e nb hb hx)
  · obtain ⟨sl, q⟩ := u.slot b o e nb hb hx
    exact ⟨sl, (hs.2 b (neC b o e)).trans q⟩
  · rw [upd_ne (neD b o e)]; exact u.free b o e nb hx
  · obtain ⟨o', q⟩ := u.there b o e hx
    exact ⟨o', (hs.2 b (neC b o e)).trans q⟩
  · have q := u.tups b xs e
    rw [upd_ne (ne_of_none q nD')]; exact q
  · have q := u.frzs b o xs e
    rw [upd_ne (ne_of_none q nD')]; exact q
  · obtain ⟨more, q⟩ := u.tbls b ps e
    exact ⟨more, by rw [upd_ne (ne_of_none q nD')]; exact q⟩
  · have freeC' : H' C = none := J.free
    by_cases hb : b = D
    · subst hb
      rw [upd_same] at e; cases e
      exact ⟨hz, its, n, hv, (hs.2 _ hDC).trans eD⟩
    · rw [upd_ne hb] at e
      refine (J.hok b o e).stay (fun c v hc q => (hs.2 c ?_).trans q) (fun c q => by rw [upd_ne (ne_of_none q nD')]; exact q) fun c xs q => by rw [upd_ne (ne_of_none q nD')]; exact q
      rcases hc with z | z
      · rw [z]; exact ne_of_none e freeC'
      · exact ne_of_none z freeC'
end
def wComp (J : It) (g : TG) (tt : TT) (te : TE) (Q : VK) (σ : L2.St) (H : Hp) : Prop :=
  ∃ W : Nat → Nat → L2.St → List V → Hp → Prop, (∃ m, W 0 m σ [] H) ∧ ∀ i m σ acc H, W i m σ acc H →
    (J.stop i H ∧ acc.length ≤ sizeLine ∧ ∀ D, H D = none → Q (.ref D) (upd H D (.lst acc))) ∨
    (J.go i H ∧ ∀ x H', J.yld i H x H' → g x σ H' fun σ2 H2 => tt σ2 H2 fun b H3 => if b = true then te σ2 H3 fun v H4 => acc.length < sizeLine ∧ ∃ m', m' < m ∧ W (i + 1) m' σ2 (acc ++ [v]) H4 else ∃ m', m' < m ∧ W (i + 1) m' σ2 acc H3)
def tComp (mp : List (Option Nat)) (wi : TI) (g : TG) (tt : TT) (te : TE) : TE := fun σ H Q => wi σ H fun J H1 => wComp J g tt te Q (mapS mp σ) H1
section
variable {X : Cx} {scope : Scope} {Nc : List Str} {mp : List (Option Nat)} {tg iter elt : Expr} {ifs : List Expr} {pos : Pos} {wi : TI} {g : TG} {tt : TT} {te : TE}
theorem comp_block {pins : List (Addr × Obj)} {σ : L2.St} {H : Hp} {s2 : Shared} {it : Addr} {fp : List Addr} {tn : Nat → Heap → Prop} {J : It} {cl : List (Str × Addr)} {RR : Value → Addr → Result → Shared → Prop} {Q : VK}
    (hc : X.calm = true) (S : CompOk X scope Nc mp)
    (hb : ∀ cl C s H fp, PG (comp X Nc scope cl C s H fp) tg g ∧ PTs (comp X Nc scope cl C s H fp) ifs tt ∧ PE (comp X Nc scope cl C s H fp) elt te)
    (h1 : ∀ x c, cl.lookup x = some c → X.env.cells.lookup x = some c) (h2 : ∀ y ∈ scope.names, y.2 = .free → ∃ c, cl.lookup y.1 = some c)
    (I : Inv X pins σ H s2) (T : Turn X.prog X.w X.K tg J fp it tn) (st : tn 0 s2.heap) (hf : ∀ b ∈ fp, FpOk X pins H b) (hw : wComp J g tt te Q (mapS mp σ) H)
    (hR : ∀ D C s' H', s2.heap.objs.size ≤ C → s2.heap.objs.size ≤ D → D ≠ C → (∃ m, s'.heap.Ns C m) → (∀ h', Heap.SameBut C s'.heap h' → Inv X pins σ H' { s' with heap := h' }) → H' C = none → Q (.ref D) H' → RR (.ref D) C (.ok .next) s') :
    wpAny (model X.prog X.w) X.A (newList []) (fun acc s₃ => wpAny (model X.prog X.w) X.A (newFunctionEnv scope X.env.globals cl [] X.env.qual none .none (some X.env)) (fun cenv s₄ =>
      codeAny (model X.prog X.w) X.A (.compStart (.ListComp elt [⟨tg, iter, ifs, 0⟩] scope pos) 0 (.ref it) acc { cenv with scope := relabel scope X.env }) (RR acc cenv.locals) s₄) X.xe s₃) X.xe s2 := by
  obtain ⟨W, ⟨m0, w0⟩, turn⟩ := hw
  refine wpAny_newObj_type (wpAny_newFunctionEnv S.noc (by intro y hy; simp at hy) (fun h₁ hns₁ hsb₁ => ?_) S.kind)
  dsimp only at hns₁ hsb₁ ⊢
  generalize hH2 : s2.heap.push { cls := .type "list", dict := none, data := .seq ([] : List Value).toArray } = H2 at hns₁ hsb₁ ⊢
  have hC : H2.objs.size = s2.heap.objs.size + 1 := by rw [← hH2, Heap.size_push]
  have hDC : s2.heap.objs.size ≠ H2.objs.size := by rw [hC]; exact Nat.ne_of_lt (Nat.lt_succ_self _)
  have hCle : s2.heap.objs.size ≤ H2.objs.size := by rw [hC]; exact Nat.le_succ _
  have below : ∀ b, b < s2.heap.objs.size → b ≠ H2.objs.size := fun b hb => by rw [hC]; exact Nat.ne_of_lt (Nat.lt_succ_of_lt hb)
  have old : ∀ b o, s2.heap.get? b = some o → h₁.get? b = some o := fun b o e => hsb₁.extBut b o (below b (Heap.lt_size e)) (Heap.get?_push_of_some _ (hH2 ▸ Heap.get?_push_of_some _ e))
  have eD : h₁.get? s2.heap.objs.size = some { cls := .type "list", data := .seq ([] : List Value).toArray 0 } := hsb₁.extBut _ _ hDC (Heap.get?_push_of_some _ (hH2 ▸ Heap.get?_push_size _ rfl))
  have ho : ∀ b ∈ fp, b < s2.heap.objs.size := fun b hb => by
    obtain ⟨o, e, _⟩ := T.obj 0 _ st b hb
    exact Heap.lt_size e
  generalize hYd : comp X Nc scope cl H2.objs.size s2 H fp = Y
  have bodies := hb cl H2.objs.size s2 H fp
  rw [hYd] at bodies
  obtain ⟨hg, htt, hte⟩ := bodies
  have I0 : ∀ tk, Inv Y [(s2.heap.objs.size, { cls := .type "list", data := .seq ([] : List Value).toArray 0 })] (mapS mp σ) H { s2 with heap := h₁, toks := tk } := fun tk => by
    rw [← hYd]
    exact comp_inv I S h1 h2 hCle hf ho old hns₁ (Nat.le_refl _) hDC eD fun v z => by cases z
  have hYp : Y.prog = X.prog := by rw [← hYd]; rfl
  have hYw : Y.w = X.w := by rw [← hYd]; rfl
  have hYK : Y.K = X.K := by rw [← hYd]; rfl
  have hYA : Y.A = X.A := by rw [← hYd]; rfl
  have hYc : Y.calm = true := by rw [← hYd]; exact hc
  have hYx : Y.xe = fun _ _ => False := by rw [← hYd]; rfl
  have hYe : Y.env = compEnvC scope cl H2.objs.size X.env := by rw [← hYd]; rfl
  have hYs : Y.s₀ = s2 := by rw [← hYd]; rfl
  have hYex : Y.ex = fp := by rw [← hYd]; rfl
  have hYpn : Y.pn = [] := by rw [← hYd]; rfl
  have hYfs : Y.fs = frs X.stack := by rw [← hYd]; rfl
  -- the iterator's objects, in the block
  have fpY : ∀ {o : Obj} {H' : Hp}, (∀ b ∈ fp, H' b = none) → ∀ b ∈ fp, FpOk Y [(s2.heap.objs.size, o)] H' b := fun {o H'} hn b hb => by
    refine ⟨hn b hb, ?_, ?_, .inl (by rw [hYex]; exact hb), fun x c e => ?_, fun p hp => ?_⟩
    · rw [hYe]; exact below b (ho b hb)
    · rw [hYfs]
      intro z
      rcases List.mem_cons.mp (I.stkSub b z) with e | e
      · exact (hf b hb).2.1 e
      · exact (hf b hb).2.2.1 e
    · rw [hYe] at e
      exact (hf b hb).2.2.2.2.1 x c (h1 x c e)
    · rw [hYpn] at hp
      have e : p = (s2.heap.objs.size, o) := by simpa using hp
      subst e
      exact Nat.ne_of_gt (ho b hb)
  have loop : ∀ s₃ : Shared, s₃ = { s2 with heap := h₁, toks := s2.toks + ([] : List (Str × Value)).length } →
      codeAny (model X.prog X.w) X.A (.compLoop (.ListComp elt [⟨tg, iter, ifs, 0⟩] scope pos) 0 (.ref it) (.ref s2.heap.objs.size) (compEnvC scope cl H2.objs.size X.env))
        (RR (.ref s2.heap.objs.size) H2.objs.size) s₃ := by
    rintro s₃ rfl
    refine compLoop_any (fun n s' => ∃ i σ' H' acc its k, Inv Y [(s2.heap.objs.size, { cls := .type "list", data := .seq its.toArray k })] σ' H' s' ∧ tn i s'.heap ∧ (∀ b ∈ fp, H' b = none) ∧ Vals acc its ∧ acc.length ≤ sizeLine ∧ W i n σ' acc H') ?_ m0
      ⟨0, mapS mp σ, H, [], [], 0, I0 _, T.keep 0 _ _ st fun b _ o e => old b o e, fun b hb => (hf b hb).1, .nil, Nat.zero_le _, w0⟩
    rintro n s3 ⟨i, σ3, H3, acc, its, k, I3, st3, fr3, hv, hz, w3⟩
    rcases turn i n σ3 acc H3 w3 with ⟨stop, hzz, qn⟩ | ⟨go, step⟩
    · have hd := T.done Y hYp hYw hYK hYc i _ s3 σ3 H3 NE I3 (fpY fr3) st3 stop
      rw [hYA] at hd
      refine thn hd fun r s4 ⟨hr, I4⟩ => ?_
      subst hr
      have I4' := I4
      rw [← hYd] at I4'
      have nC : H3 H2.objs.size = none := by
        have z := I4.free
        rw [hYe] at z
        exact z
      obtain ⟨_, nD⟩ := comp_out I hCle (Nat.le_refl _) hDC hf I4' (Heap.SameBut.refl _ s4.heap) hv hzz
      refine hR _ _ s4 _ hCle (Nat.le_refl _) hDC ?_ (fun h' hs' => (comp_out I hCle (Nat.le_refl _) hDC hf I4' hs' hv hzz).1) ?_ (qn _ nD)
      · obtain ⟨m', hn', _⟩ := I4.loc
        rw [hYe] at hn'
        exact ⟨m', hn'⟩
      · rw [upd_ne (Ne.symm hDC)]; exact nC
    · have hi := T.item Y hYp hYw hYK hYc i _ s3 σ3 H3 NE I3 (fpY fr3) st3 go
      rw [hYA] at hi
      refine thn hi fun r s4 ⟨u, hr, h4⟩ => ?_
      subst hr
      refine thn h4 fun _ s5 ⟨x, H5, I5, r5, y5, st5, fr5⟩ => ?_
      have I5' := I5.pinned (fpY fr5) (T.obj _ _ st5)
      have ha := hg _ s5 σ3 H5 x u _ I5' r5 (step x H5 y5)
      rw [hYp, hYw, hYA, hYe, hYx] at ha
      refine thn ha fun _ s6 ⟨σ6, H6, I6, q6⟩ => ?_
      have ht := htt _ s6 σ6 H6 _ I6 q6
      rw [hYp, hYw, hYA, hYe, hYx] at ht
      refine thn ht fun ok s7 ⟨H7, I7, q7⟩ => ?_
      cases ok with
      | false =>
        have q7' : ∃ m', m' < n ∧ W (i + 1) m' σ6 acc H7 := q7
        obtain ⟨m', hm, w7⟩ := q7'
        rw [if_neg Bool.false_ne_true]
        refine ⟨m', hm, i + 1, σ6, H7, acc, its, k, I7.unpinned, T.keep _ _ _ st5 fun b hb o e => (I7.pin (b, o) (List.mem_append_right _ (List.mem_append_right _ (mem_pinsAt hb e)))).1, fun b hb => ?_, hv, hz, w7⟩
        obtain ⟨o, e, d⟩ := T.obj _ _ st5 b hb
        exact (I7.pin (b, o) (List.mem_append_right _ (List.mem_append_right _ (mem_pinsAt hb e)))).2.1
      | true =>
        rw [if_pos rfl]
        have he := hte _ s7 σ6 H7 _ I7 q7
        rw [hYp, hYw, hYA, hYe, hYx] at he
        refine thn he fun x4 s8 ⟨v, H8, I8, r8, hlt, m', hm, w8⟩ => ?_
        have st8 : tn (i + 1) s8.heap := T.keep _ _ _ st5 fun b hb o e => (I8.pin (b, o) (List.mem_append_right _ (List.mem_append_right _ (mem_pinsAt hb e)))).1
        have fr8 : ∀ b ∈ fp, H8 b = none := fun b hb => by
          obtain ⟨o, e, d⟩ := T.obj _ _ st5 b hb
          exact (I8.pin (b, o) (List.mem_append_right _ (List.mem_append_right _ (mem_pinsAt hb e)))).2.1
        have I8' := I8.unpinned
        obtain ⟨e8, n8, ne8, nf8, _⟩ := I8'.pin (s2.heap.objs.size, { cls := .type "list", data := .seq its.toArray k }) (List.mem_append_right _ List.mem_cons_self)
        refine wpAny_list_append_plain (items := its.toArray) ⟨k, e8⟩ (fun h9 hl9 hs9 => ?_) (by rw [List.size_toArray, ← hv.length]; exact hz)
        obtain ⟨k9, e9⟩ := hl9
        have ep : its.toArray.push x4 = (its ++ [x4]).toArray := by simp
        rw [ep] at e9
        -- the list has turned
        have I9 : Inv Y [] σ6 H8 { s8 with heap := h9 } := by
          refine (I8'.pins_of (pins' := []) fun p hp => nomatch hp).turned (t' := s8.toks) (it := s2.heap.objs.size) (fun b o hb e => (hs9.2 b hb).trans e) n8 ne8 (.inr (by rw [hYs]; exact Nat.le_refl _)) (fun x c e z => ?_) fun p hp => ?_
          · rw [hYe] at e
            obtain ⟨v', o', ho', _⟩ := I.cell x c (h1 x c e)
            exact absurd (Heap.lt_size ho') (by rw [z]; exact Nat.lt_irrefl _)
          · rw [hYpn] at hp
            exact absurd hp (by simp)
        refine ⟨m', hm, i + 1, σ6, H8, acc ++ [v], its ++ [x4], k9, I9.pins_of fun p hp => ?_, ?_, fr8, hv.append (.cons r8 .nil), ?_, w8⟩
        · have e : p = (s2.heap.objs.size, { cls := .type "list", data := .seq (its ++ [x4]).toArray k9 }) := by simpa using hp
          subst e
          exact ⟨e9, n8, ne8, nf8, fun v z => by cases z⟩
        · exact T.keep _ _ _ st8 fun b hb o e => (hs9.2 b (Nat.ne_of_lt (ho b hb))).trans e
        · rw [List.length_append, List.length_singleton]; omega
  have hself := T.self X.A 0 { s2 with heap := h₁, toks := s2.toks + ([] : List (Str × Value)).length } (fun it' s' => codeAny (model X.prog X.w) X.A (.compLoop (.ListComp elt [⟨tg, iter, ifs, 0⟩] scope pos) 0 it' (.ref s2.heap.objs.size) (compEnvC scope cl H2.objs.size X.env))
        (RR (.ref s2.heap.objs.size) H2.objs.size) s') (notedBy (model X.prog X.w) X.A (compEnvC scope cl H2.objs.size X.env) fun x s' => RR (.ref s2.heap.objs.size) H2.objs.size (.error x) s') (T.keep 0 _ _ st fun b _ o e => old b o e) (loop _ rfl)
  exact codeAny_compStart_list (loop _ rfl) hself
theorem clos_of (S : CompOk X scope Nc mp) {pins : List (Addr × Obj)} {σ : L2.St} {H : Hp} {s : Shared} (I : Inv X pins σ H s) : ∃ cl, closureFor scope X.env = pure cl ∧ (∀ x c, cl.lookup x = some c → X.env.cells.lookup x = some c) ∧ (∀ y ∈ scope.names, y.2 = .free → ∃ c, cl.lookup y.1 = some c) :=
  closure_ok fun y hy hf => I.ok.has y.1 (S.fre y hy hf)
theorem pe_comp (hc : X.calm = true) (S : CompOk X scope Nc mp) (hi : PI X tg iter wi)
    (hb : ∀ cl C s H fp, PG (comp X Nc scope cl C s H fp) tg g ∧ PTs (comp X Nc scope cl C s H fp) ifs tt ∧ PE (comp X Nc scope cl C s H fp) elt te)
    (hs : ∀ x, foldedSetIterable iter X.env x = pure x := by intro _; rfl) : PE X (.ListComp elt [⟨tg, iter, ifs, 0⟩] scope pos) (tComp mp wi g tt te) := by
  intro pins s σ H Q I h
  obtain ⟨cl, hcl, h1, h2⟩ := clos_of S I
  rw [eval_ListComp]
  refine wpAny_comprehension_free (use := none) rfl hs hcl S.kind S.loc (thn (hi pins s σ H _ I h) fun v s1 hv => thn hv fun itv s2 hq => ?_)
  obtain ⟨it, fp, tn, J, H2, e, I2, T, st2, f2, hw⟩ := hq
  subst e
  refine comp_block (RR := fun acc C => compPost (model X.prog X.w) X.A X.xe none (EP X pins σ Q) acc C) (Q := Q) hc S hb h1 h2 I2 T st2 f2 hw fun D C s' H' hC hD hDC hm hI hn hq => ?_
  obtain ⟨m, hm⟩ := hm
  exact ⟨m, hm, fun h' hs' => ⟨.ref D, H', hI h' hs', rfl, hq⟩⟩
theorem ps_setC {i : Nat} {x : Str} {pos' spos : Pos} (hc : X.calm = true) (hN : X.N.Nodup) (hiN : X.N[i]? = some x) (hx : X.env.scope.names.lookup x = some .local) (S : CompOk X scope Nc mp) (hi : PI X tg iter wi)
    (hb : ∀ cl C s H fp, PG (comp X Nc scope cl C s H fp) tg g ∧ PTs (comp X Nc scope cl C s H fp) ifs tt ∧ PE (comp X Nc scope cl C s H fp) elt te)
    (hsw : swapsWith (.ListComp elt [⟨tg, iter, ifs, 0⟩] scope pos) (some (.Name x pos')) spos.line X.env = pure true := by rfl)
    (hs : ∀ x, foldedSetIterable iter X.env x = pure x := by intro _; rfl) : PS X (.Assign [.Name x pos'] (.ListComp elt [⟨tg, iter, ifs, 0⟩] scope pos) spos) (tAsg (tComp mp wi g tt te) (gName i)) := by
  intro pins s σ H D I h
  obtain ⟨cl, hcl, h1, h2⟩ := clos_of S I
  rw [exec_Assign_Name_used _ _ _ _ hsw]
  refine wpAny_bind (wpAny_standAt (wpAny_bind ?_))
  show wpAny _ X.A (do let _ ← comprehension (.ListComp elt [⟨tg, iter, ifs, 0⟩] scope pos) scope X.env _ (newList []) false (eval iter X.env) (some (assign (.Name x pos') X.env))) _ _ s
  refine wpAny_bind (wpAny_mono (wpAny_comprehension_free (use := some (assign (.Name x pos') X.env)) (Q := fun _ s' => SP X pins D .next s') rfl hs hcl S.kind S.loc (thn (hi pins s σ H _ I h) fun v s1 hv => thn hv fun itv s2 hq => ?_)) (fun _ s' hq => wpAny_pure (wpAny_pure hq)) fun _ _ e => e)
  obtain ⟨it, fp, tn, J, H2, e, I2, T, st2, f2, hw⟩ := hq
  subst e
  refine comp_block (RR := fun acc C => compPost (model X.prog X.w) X.A X.xe (some (assign (.Name x pos') X.env)) (fun _ s' => SP X pins D .next s') acc C) (Q := fun v H1 => D.nx (σ.set i (some v)) H1) hc S hb h1 h2 I2 T st2 f2 hw fun A C s' H' hC hD hDC hm hI hn hq => ?_
  obtain ⟨m, hm⟩ := hm
  show wpAny _ X.A (assign (.Name x pos') X.env (.ref A)) _ _ s'
  have I0 : Inv X pins σ H' s' := hI s'.heap (Heap.SameBut.refl ..)
  have hLC : X.env.locals ≠ C := Nat.ne_of_lt (Nat.lt_of_lt_of_le I2.lt hC)
  have hcC : ∀ y c, X.env.cells.lookup y = some c → c ≠ C := fun y c e z => by
    obtain ⟨v, o, ho, _⟩ := I2.cell y c e
    exact absurd (Nat.lt_of_lt_of_le (Heap.lt_size ho) hC) (by rw [z]; exact Nat.lt_irrefl _)
  refine wpAny_assign_Name (store_ok2 I0 hN hiN (.inl hx) (show RelV (.ref A) (.ref A) from rfl) (fun s6 I6 hch => ?_) (.inr hx))
  obtain ⟨a, hs6, ha⟩ := hch
  have hCa : C ≠ a := by
    rcases ha with z | z
    · rw [z]; exact Ne.symm hLC
    · exact Ne.symm (hcC x a z)
  refine ⟨m, hm.sameBut hs6 hCa, fun h' hs' => ?_⟩
  have I7 : Inv X pins (σ.set i (some (.ref A))) H' { s6 with heap := h' } := I6.turned (t' := s6.toks) (it := C) (fun b o hb e => (hs'.2 b hb).trans e) hn (Ne.symm hLC) (.inr (Nat.le_trans I2.sz hC)) hcC fun p hp z => by
    exact absurd (Nat.lt_of_lt_of_le (Heap.lt_size (I2.pin p hp).1) hC) (by rw [z]; exact Nat.lt_irrefl _)
  exact ⟨_, H', I7, hq⟩
end
end L3
namespace L3
open PySem PySem.Spec PyProof.Rows L2
theorem bounds_gen (lo hi : Option Int) (n : Nat) : sliceBounds lo hi none n = (((HT.sIx n 0 lo : Nat) : Int), ((HT.sIx n n hi : Nat) : Int), 1) := by
  have clip : ∀ (v : Int), max 0 (min (if v < 0 then v + (n : Int) else v) (n : Int)) = (((if v < 0 then (v + (n : Int)).toNat else min v.toNat n) : Nat) : Int) := fun v => by
    by_cases hv : v < 0
    · rw [if_pos hv, if_pos hv]; omega
    · rw [if_neg hv, if_neg hv]; omega
  unfold sliceBounds
  refine Prod.ext ?_ (Prod.ext ?_ rfl)
  · cases lo with
    | none => rfl
    | some v => exact clip v
  · cases hi with
    | none => rfl
    | some v => exact clip v
theorem slicePick_cut (its : List Value) (lo hi : Option Int) : slicePick its.toArray lo hi none = ((its.drop (HT.sIx its.length 0 lo)).take (HT.sIx its.length its.length hi - HT.sIx its.length 0 lo)).toArray := by
  unfold slicePick
  rw [bounds_gen, List.size_toArray]
  dsimp only
  rw [sliceRange_one, pick_run]
theorem strIx_gen (lo hi : Option Int) (n : Nat) : Builtin.Str.strSliceIndices lo hi 1 n = (List.range (HT.sIx n n hi - HT.sIx n 0 lo)).map (HT.sIx n 0 lo + ·) := by
  have clip : ∀ (v : Int), max 0 (min (if v < 0 then v + (n : Int) else v) (n : Int)) = (((if v < 0 then (v + (n : Int)).toNat else min v.toNat n) : Nat) : Int) := fun v => by
    by_cases hv : v < 0
    · rw [if_pos hv, if_pos hv]; omega
    · rw [if_neg hv, if_neg hv]; omega
  rw [← sliceRange_one]
  unfold Builtin.Str.strSliceIndices
  have e1 : (match lo with | none => (0 : Int) | some i => max 0 (min (if i < 0 then i + (n : Int) else i) (n : Int))) = ((HT.sIx n 0 lo : Nat) : Int) := by
    cases lo with
    | none => rfl
    | some v => exact clip v
  have e2 : (match hi with | none => (n : Int) | some i => max 0 (min (if i < 0 then i + (n : Int) else i) (n : Int))) = ((HT.sIx n n hi : Nat) : Int) := by
    cases hi with
    | none => rfl
    | some v => exact clip v
  rw [← e1, ← e2]
  cases lo <;> cases hi <;> rfl
def cutL (l : List Nat) (lo hi : Option Int) : List Nat := (l.drop (HT.sIx l.length 0 lo)).take (HT.sIx l.length l.length hi - HT.sIx l.length 0 lo)
theorem slice_cut (z : Str) (lo hi : Option Int) : Txt.slice z lo hi = ⟨(cutL z.cps.toList lo hi).toArray⟩ := by
  have hl : z.cps.toList.length = z.length := by simp [Str.length]
  have hb : HT.sIx z.length z.length hi ≤ z.length := HT.sIx_le _ _ (Nat.le_refl _) hi
  unfold Txt.slice cutL
  rw [strIx_gen, hl]
  by_cases h : ((1 : Int) == 1 && ((List.range (HT.sIx z.length z.length hi - HT.sIx z.length 0 lo)).map (HT.sIx z.length 0 lo + ·)).length == z.length) = true
  · rw [if_pos h]
    rw [Bool.and_eq_true, List.length_map, List.length_range] at h
    have h2 := eq_of_beq h.2
    have e : (z.cps.toList.drop (HT.sIx z.length 0 lo)).take (HT.sIx z.length z.length hi - HT.sIx z.length 0 lo) = z.cps.toList := by
      by_cases h0 : z.length = 0
      · have : z.cps.toList = [] := List.eq_nil_of_length_eq_zero (by rw [hl]; exact h0)
        rw [this]; simp
      · have ha : HT.sIx z.length 0 lo = 0 := by omega
        rw [ha, List.drop_zero]
        exact List.take_of_length_le (by rw [hl]; omega)
    rw [e]
  · rw [if_neg h, pick_run]
section
variable {X : Cx}
def rSlLs (K : PySem.W.Frag) : V → Option Int → Option Int → Hp → VK → Prop := fun x lo hi H Q => ∃ a xs, x = .ref a ∧ SqL K H a xs ∧ ∀ p, H p = none → Q (.ref p) (upd H p (.lst (cutV xs lo hi)))
theorem sl_lst : SlR X (rSlLs X.K) := by
  intro pins s σ H x v vl vu lo hi sl Q I rx hs pl pu h
  obtain ⟨a, xs, rfl, hx, q⟩ := h
  cases rx
  obtain ⟨its, r, hp, hz⟩ := I.list hx
  refine ⟨"list", _, list_getitem_lookup, hp.isList.typeIs, ?_⟩
  refine wpAny_getItem_list_slice hp.isList hs pl pu .none (by simp) ?_ (by rw [List.size_toArray, ← r.length]; exact hz)
  rw [slicePick_cut, ← r.length]
  exact ⟨.ref _, _, I.lnew (t' := s.toks) ((r.drop _).take _) (Nat.le_trans (cutV_length xs lo hi) hz), rfl, q _ I.fresh⟩
def rSlS : V → Option Int → Option Int → Hp → VK → Prop := fun x lo hi H Q => ∃ z, x = .str z ∧ z.length ≤ sizeLine ∧ Q (.str ⟨(cutL z.cps.toList lo hi).toArray⟩) H
theorem sl_str : SlR X rSlS := by
  intro pins s σ H x v vl vu lo hi sl Q I rx hs pl pu h
  obtain ⟨z, rfl, hz, q⟩ := h
  obtain ⟨t, rfl⟩ := rx
  refine ⟨"str", _, F.slot_str_getitem.lookup, typeIs_str _ _ _, ?_⟩
  have fin : ∀ t' k, EP X pins σ Q (.str (Txt.slice z lo hi) t') { s with toks := k } := fun t' k => by
    rw [slice_cut]
    exact ⟨.str _, H, I.tok _, ⟨_, rfl⟩, q⟩
  obtain ⟨os, hos, hcs, hds⟩ := id hs
  cases pl with
  | none =>
    cases pu with
    | none => exact wpAny_getItem_str_slice (l := none) (u := none) (st := none) ⟨os, hos, hcs, hds⟩ rfl (post_val_or_str ⟨Nat.le_trans (Txt.slice_le z _ _) hz, fin⟩)
    | int j uj => exact wpAny_getItem_str_slice (l := none) (u := some (j, uj)) (st := none) ⟨os, hos, hcs, hds⟩ rfl (post_val_or_str ⟨Nat.le_trans (Txt.slice_le z _ _) hz, fin⟩)
  | int i ui =>
    cases pu with
    | none => exact wpAny_getItem_str_slice (l := some (i, ui)) (u := none) (st := none) ⟨os, hos, hcs, hds⟩ rfl (post_val_or_str ⟨Nat.le_trans (Txt.slice_le z _ _) hz, fin⟩)
    | int j uj => exact wpAny_getItem_str_slice (l := some (i, ui)) (u := some (j, uj)) (st := none) ⟨os, hos, hcs, hds⟩ rfl (post_val_or_str ⟨Nat.le_trans (Txt.slice_le z _ _) hz, fin⟩)
theorem all_range (bs : List Bool) : (List.range bs.length).all (fun i => bs.getD i false) = bs.all id := by
  rw [Bool.eq_iff_iff, List.all_eq_true, List.all_eq_true]
  constructor
  · intro h b hb
    obtain ⟨i, hi, e⟩ := List.mem_iff_getElem.mp hb
    have := h i (List.mem_range.mpr hi)
    rw [List.getD_eq_getElem?_getD, List.getElem?_eq_getElem hi] at this
    rw [← e]; exact this
  · intro h i hi
    have hi' := List.mem_range.mp hi
    rw [List.getD_eq_getElem?_getD, List.getElem?_eq_getElem hi']
    exact h _ (List.getElem_mem hi')
theorem call_all (hc : X.calm = true) : CallR X (.builtin "all") (fun xs H Q => ∃ (p : Addr) (bs : List Bool), xs = [.ref p] ∧ SqL X.K H p (bs.map V.bl) ∧ Q (.bl (bs.all id)) H) := by
  intro pins s σ H xs us Q I r h
  obtain ⟨p, bs, rfl, hq, q⟩ := h
  obtain ⟨u, rfl, ru⟩ := r.one
  cases ru
  obtain ⟨its, rv, hp, hz⟩ := I.list hq
  have hlt : p < s.heap.objs.size := by obtain ⟨_, e, _⟩ := hp.isList; exact Heap.lt_size e
  refine call_all_walk (wpAny_pyIter_list hp.isList ?_)
  refine ⟨s.heap.objs.size, [s.heap.objs.size, p], [s.heap.objs.size], its.toArray.size, _, _, fun i => bs.getD i false, rfl, Walks.list (A := X.A.in1) (I.ok.hd hc) _ _ (Nat.ne_of_lt hlt) its.toArray, ⟨⟨_, Heap.get?_push_size _ rfl, rfl, rfl⟩, hp.isList.push _⟩, ?_, ?_⟩
  · intro i v s' Q' E' hv hQ'
    have hv' : its[i]? = some v := by simpa using hv
    have hi : i < (bs.map V.bl).length := by
      rw [rv.length]; exact (List.getElem?_eq_some_iff.mp hv').1
    have hib : i < bs.length := by simpa using hi
    obtain ⟨u, hu, ru⟩ := rv.get (i := i) (x := V.bl bs[i]) (by rw [List.getElem?_map, List.getElem?_eq_getElem hib]; rfl)
    rw [hv'] at hu; cases hu
    cases ru
    have e : bs.getD i false = bs[i] := by rw [List.getD_eq_getElem?_getD, List.getElem?_eq_getElem hib]; rfl
    dsimp only at hQ'
    rw [e] at hQ'
    exact wpAny_truthy_bool hQ'
  · intro h' tk hk
    have el : its.toArray.size = bs.length := by rw [List.size_toArray, ← rv.length, List.length_map]
    rw [el, all_range]
    exact ⟨.bl _, H, I.kept fun b o e => hk b o (fun z => absurd (Heap.lt_size e) (by rw [List.mem_singleton.mp z]; exact Nat.lt_irrefl _)) (Heap.get?_push_of_some _ e), rfl, q⟩
theorem call_isi : CallR X (.builtin "isinstance") (fun xs H Q => ∃ x n t b, xs = [x, .ty n] ∧ TyOf X.K H x t ∧ PySem.W.kitOne X.K t (.type n) = some b ∧ Q (.bl b) H) := by
  intro pins s σ H xs us Q I r h
  obtain ⟨x, n, t, b, rfl, ty, e, q⟩ := h
  obtain ⟨u, u2, rfl, r1, r2⟩ := r.two
  cases r2
  exact isinst_ok I r1 ty e fun tk => ⟨.bl b, H, I.tok _, rfl, q⟩
end
end L3
namespace L3
open PySem PySem.Spec PyProof.Rows L2
def mapChk (sc : Scope) (N : List Str) (own : Scope) : List Str → List (Option Nat) → Bool
  | [], [] => true
  | _ :: r, none :: m => mapChk sc N own r m
  | x :: r, some i :: m => (N[i]? == some x && (sc.names.lookup x == some .cell || sc.names.lookup x == some .free) && own.names.lookup x == some .free) && mapChk sc N own r m
  | _, _ => false
def compChk (sc : Scope) (N : List Str) (own : Scope) (Nc : List Str) (mp : List (Option Nat)) : Bool :=
  (own.kind == .function) && (own.names.all fun y => y.2 != .cell) && (own.names.all fun y => y.2 != .local || own.names.lookup y.1 == some .local) &&
  (own.names.all fun y => y.2 != .free || (sc.names.lookup y.1 == some .cell || sc.names.lookup y.1 == some .free)) && mapChk sc N own Nc mp
theorem mapChk_ok {X : Cx} {own : Scope} : ∀ {Nc : List Str} {mp : List (Option Nat)}, mapChk X.env.scope X.N own Nc mp = true → MapOk X own Nc mp
  | [], [], _ => trivial
  | _ :: r, none :: m, h => mapChk_ok (Nc := r) (mp := m) h
  | x :: r, some i :: m, h => by
    unfold mapChk at h
    simp only [Bool.and_eq_true, Bool.or_eq_true, beq_iff_eq] at h
    exact ⟨⟨h.1.1.1, h.1.1.2, h.1.2⟩, mapChk_ok h.2⟩
  | [], _ :: _, h => absurd (show false = true from h) Bool.false_ne_true
  | _ :: _, [], h => absurd (show false = true from h) Bool.false_ne_true
theorem CompOk.of {X : Cx} {own : Scope} {Nc : List Str} {mp : List (Option Nat)} (h : compChk X.env.scope X.N own Nc mp = true) : CompOk X own Nc mp := by
  unfold compChk at h
  simp only [Bool.and_eq_true, List.all_eq_true, Bool.or_eq_true, beq_iff_eq, bne_iff_ne] at h
  obtain ⟨⟨⟨⟨h1, h2⟩, h3⟩, h4⟩, h5⟩ := h
  refine ⟨h1, h2, fun y hy e => ?_, fun y hy e => ?_, mapChk_ok h5⟩
  · rcases h3 y hy with z | z
    · exact absurd e z
    · exact z
  · rcases h4 y hy with z | z
    · exact absurd e z
    · exact z
structure Src (J : It) (H : Hp) (xs : List V) : Prop where
  go : ∀ i, i < xs.length → J.go i H
  yld : ∀ i x H', i < xs.length → J.yld i H x H' → H' = H ∧ xs[i]? = some x
  stop : ∀ i, xs.length ≤ i → J.stop i H
theorem src_range (lo : Int) (n : Nat) (H : Hp) : Src (Itr lo n) H ((List.range n).map fun i => V.int (lo + (i : Nat))) where
  go := fun i h => by
    rw [List.length_map, List.length_range] at h
    exact h
  yld := fun i x H' hi h => by
    obtain ⟨e, rfl⟩ := h
    rw [List.length_map, List.length_range] at hi
    exact ⟨e, by rw [List.getElem?_map, List.getElem?_range hi]; rfl⟩
  stop := fun i h => by
    rw [List.length_map, List.length_range] at h
    exact h
theorem src_tup {K : PySem.W.Frag} {H : Hp} {a : Addr} {xs : List V} (h : SqT K H a xs) : Src (Itt K a) H xs where
  go := fun i hi => ⟨xs, xs[i], h, by simp [hi]⟩
  yld := fun i x H' _ q => ⟨q.1, q.2 xs h⟩
  stop := fun i hi => ⟨xs, h, hi⟩
theorem comp_pure {α : Type} {J : It} {H : Hp} {as : List α} {v : α → V} (f : α → Bool) (e : α → V) {tt : TT} {te : TE} {Q : VK} {rest : L2.St} (S : Src J H (as.map v)) (hz : as.length ≤ sizeLine)
    (ht : ∀ a ∈ as, ∀ k : Bool → Hp → Prop, k (f a) H → tt (some (v a) :: rest) H k) (he : ∀ a ∈ as, f a = true → ∀ k : VK, k (e a) H → te (some (v a) :: rest) H k)
    (hq : ∀ D, H D = none → Q (.ref D) (upd H D (.lst ((as.filter f).map e)))) : wComp J (gName 0) tt te Q (none :: rest) H := by
  refine ⟨fun i m σ acc H' => H' = H ∧ i ≤ as.length ∧ m = as.length - i ∧ acc = ((as.take i).filter f).map e ∧ ∃ o, σ = o :: rest, ⟨as.length, rfl, Nat.zero_le _, rfl, by simp, none, rfl⟩, ?_⟩
  rintro i m σ acc H' ⟨rfl, hi, rfl, rfl, o, rfl⟩
  have hacc : (((as.take i).filter f).map e).length ≤ i := by
    rw [List.length_map]
    exact Nat.le_trans (List.length_filter_le _ _) (by rw [List.length_take]; exact Nat.min_le_left _ _)
  by_cases hlt : i < as.length
  · refine .inr ⟨S.go i (by rw [List.length_map]; exact hlt), fun x H1 y => ?_⟩
    obtain ⟨rfl, hx⟩ := S.yld i x H1 (by rw [List.length_map]; exact hlt) y
    rw [List.getElem?_map, List.getElem?_eq_getElem hlt] at hx
    have hx' : v as[i] = x := Option.some.inj hx
    subst hx'
    have hm : as[i] ∈ as := List.getElem_mem hlt
    have ts : as.take (i + 1) = as.take i ++ [as[i]] := List.take_succ_eq_append_getElem hlt
    show tt (some (v as[i]) :: rest) H1 _
    refine ht _ hm _ ?_
    cases hf : f as[i] with
    | true =>
      rw [if_pos rfl]
      refine he _ hm hf _ ⟨by omega, as.length - (i + 1), by omega, rfl, hlt, rfl, ?_, _, rfl⟩
      rw [ts, List.filter_append, List.map_append, List.filter_cons_of_pos hf]
      rfl
    | false =>
      rw [if_neg Bool.false_ne_true]
      refine ⟨as.length - (i + 1), by omega, rfl, hlt, rfl, ?_, _, rfl⟩
      rw [ts, List.filter_append, List.filter_cons_of_neg (by rw [hf]; exact Bool.false_ne_true)]
      simp
  · have ei : i = as.length := by omega
    subst ei
    refine .inl ⟨S.stop _ (by rw [List.length_map]; exact Nat.le_refl _), by omega, fun D hD => ?_⟩
    rw [List.take_length]
    exact hq D hD
theorem comp_map {α : Type} {J : It} {H : Hp} {as : List α} {v : α → V} (e : α → V) {te : TE} {Q : VK} {rest : L2.St} (S : Src J H (as.map v)) (hz : as.length ≤ sizeLine)
    (he : ∀ a ∈ as, ∀ k : VK, k (e a) H → te (some (v a) :: rest) H k)
    (hq : ∀ D, H D = none → Q (.ref D) (upd H D (.lst (as.map e)))) : wComp J (gName 0) tYes te Q (none :: rest) H :=
  comp_pure (fun _ => true) e S hz (fun a _ k hk => hk) (fun a ha _ k hk => he a ha k hk) fun D hD => by
    have e1 : as.filter (fun _ => true) = as := by simp
    rw [e1]; exact hq D hD
section
variable {X : Cx} {st : Stmt} {t : TS}
def tMid (t : TS) : TS := fun D σ H => ∃ M : L2.St → Hp → Prop, t { D with nx := M } σ H ∧ ∀ σ' H', M σ' H' → D.nx σ' H'
theorem ps_mid (h : PS X st t) : PS X st (tMid t) := by
  intro pins s σ H D I hw
  obtain ⟨M, h1, h2⟩ := hw
  refine thn (h pins s σ H { D with nx := M } I h1) fun f s' q => ?_
  cases f with
  | next =>
    obtain ⟨σ', H', I', m⟩ := q
    exact ⟨σ', H', I', h2 _ _ m⟩
  | ret v => exact q
  | brk => exact q
  | cont => exact q
end
theorem szl : (sizeLine : Nat) = 16777216 := sizeLine_eq
theorem few {n : Nat} (h : n ≤ 100000) : n ≤ sizeLine := by rw [szl]; omega
theorem fewer {n : Nat} (h : n ≤ 100000) : n < sizeLine := by rw [szl]; omega
end L3
namespace Vm
open PySem L2 L3
def Al (c : Nat) : Prop := 97 ≤ c ∧ c ≤ 122
structure Good (z : Str) : Prop where
  lo : 1 ≤ z.length
  hi : z.length ≤ 12
  al : ∀ c ∈ z.cps.toList, Al c
def letters : Str := "abcdefghijklmnopqrstuvwxyz"
theorem letters_cps : letters.cps.toList = (List.range 26).map (97 + ·) := by decide +kernel
theorem clen (z : Str) : z.cps.toList.length = z.length := by simp [Str.length]
theorem Good.small {z : Str} (g : Good z) : z.length ≤ sizeLine := few (by have := g.hi; omega)
theorem mk_list (l : List Nat) : (⟨l.toArray⟩ : Str).cps.toList = l := by simp
theorem mk_len (l : List Nat) : (⟨l.toArray⟩ : Str).length = l.length := by
  show l.toArray.size = _
  rw [List.size_toArray]
theorem take_min {α : Type} (l : List α) (n : Nat) : l.take (min n l.length) = l.take n := by
  by_cases h : n ≤ l.length
  · rw [Nat.min_eq_left h]
  · rw [Nat.min_eq_right (by omega), List.take_of_length_le (Nat.le_refl l.length), List.take_of_length_le (l := l) (i := n) (by omega)]
theorem drop_min {α : Type} (l : List α) (n : Nat) : l.drop (min n l.length) = l.drop n := by
  by_cases h : n ≤ l.length
  · rw [Nat.min_eq_left h]
  · rw [Nat.min_eq_right (by omega), List.drop_of_length_le (Nat.le_refl l.length), List.drop_of_length_le (l := l) (i := n) (by omega)]
theorem cutL_take (l : List Nat) (n : Nat) : cutL l none (some (n : Int)) = l.take n := by
  unfold cutL
  rw [HT.sIx_none, HT.sIx_nat, List.drop_zero, Nat.sub_zero, take_min]
theorem cutL_drop (l : List Nat) (n : Nat) : cutL l (some (n : Int)) none = l.drop n := by
  unfold cutL
  rw [HT.sIx_none, HT.sIx_nat, drop_min]
  exact List.take_of_length_le (by rw [List.length_drop]; omega)
theorem al_mod (n : Nat) (h : n < 26) : Al (97 + n) := by unfold Al; omega
theorem app_list (a b : Str) : (a ++ b).cps.toList = a.cps.toList ++ b.cps.toList := by
  show (a.cps ++ b.cps).toList = _
  simp
theorem app_len (a b : Str) : (a ++ b).length = a.length + b.length := by
  show (a.cps ++ b.cps).size = _
  rw [Array.size_append]; rfl
end Vm
namespace L3
open PySem PySem.Spec PyProof.Rows L2
open Builtin Builtin.Str
section
variable {X : Cx}
end
end L3
namespace Vm
open PySem L2 L3
end Vm
namespace L3
open PySem PySem.Spec PyProof.Rows L2
abbrev fra (l : List Env) : List Addr := L2.frs l
structure Exc (h : Heap) (e T C : Addr) (fl : Value) : Prop where
  ob : ∃ vs, h.get? e = some { cls := .ref C, data := .fields vs } ∧ vs[1]? = some (.ref T)
  tb : ∃ oT ts, h.get? T = some oT ∧ oT.data = .fields ts ∧ ts[3]? = some fl
  ne : T ≠ e
structure Kpt (S fs : List Addr) (h h' : Heap) : Prop where
  keep : ∀ b o, h.get? b = some o → b ∉ S → b ∉ fs → h'.get? b = some o
  slot : ∀ b o, h.get? b = some o → b ∉ S → b ∈ fs → ∃ sl, h'.get? b = some { o with slots := sl }
theorem Kpt.trans {S fs : List Addr} {h h1 h2 : Heap} (a : Kpt S fs h h1) (b : Kpt S fs h1 h2) : Kpt S fs h h2 :=
  ⟨fun c o e n m => b.keep c o (a.keep c o e n m) n m, fun c o e n m => by
    obtain ⟨sl, e1⟩ := a.slot c o e n m
    obtain ⟨sl2, e2⟩ := b.slot c _ e1 n m
    exact ⟨sl2, e2⟩⟩
theorem Kpt.mono {S S' fs : List Addr} {h h' : Heap} (a : Kpt S fs h h') (k : ∀ b ∈ S, b ∈ S') : Kpt S' fs h h' :=
  ⟨fun c o e n m => a.keep c o e (fun z => n (k c z)) m, fun c o e n m => a.slot c o e (fun z => n (k c z)) m⟩
theorem Kpt.any {S fs : List Addr} {h h' : Heap} (a : Kpt S fs h h') {b : Addr} {o : Obj} (e : h.get? b = some o) (n : b ∉ S) : ∃ sl, h'.get? b = some { o with slots := sl } := by
  by_cases m : b ∈ fs
  · exact a.slot b o e n m
  · exact ⟨o.slots, a.keep b o e n m⟩
theorem Kpt.funs {S fs : List Addr} {h h' base : Heap} {l : List Env} (a : Kpt S fs h h') (hl : h.FunFrames base l) (hn : ∀ b ∈ S, b ∉ fra l) : h'.FunFrames base l := by
  have go : ∀ (l' : List Env), (∀ b ∈ fra l', b ∈ fra l) → h.FunFrames base l' → h'.FunFrames base l' := by
    intro l'
    induction l' with
    | nil => intro _ _; trivial
    | cons env r ih =>
      intro hs hl'
      obtain ⟨hk, ⟨L, o, hf, h0, ho, hd⟩, hr⟩ := hl'
      have hL : L ∈ fra (env :: r) := by unfold fra frs; rw [List.filterMap_cons, hf]; exact List.mem_cons_self
      obtain ⟨sl, e⟩ := a.any ho fun z => hn L z (hs L hL)
      exact ⟨hk, ⟨L, _, hf, h0, e, hd⟩, ih (fun b hb => hs b (by unfold fra frs; rw [List.filterMap_cons, hf]; exact List.mem_cons_of_mem _ hb)) hr⟩
  exact go l (fun _ z => z) hl
section
variable {M : Model} {A : Around} {E : Value → Shared → Prop} {s : Shared}
theorem not_frame {base : Heap} {l : List Env} {b : Addr} {o : Obj} {vs : Array Value} (hl : s.heap.FunFrames base l) (e : s.heap.get? b = some o) (d : o.data = .fields vs) : b ∉ fra l := fun z => by
  obtain ⟨_, o', e', d'⟩ := hl.mem z
  rw [e] at e'
  cases e'
  exact d' vs d
theorem entry_new {base : Heap} {env : Env} {outer : List Env} {L e : Addr} {c head : Value} {vs : Array Value} {hadNext : Bool} {Q : Unit → Shared → Prop} (hfr : A.frames = some (env :: outer)) (hl : s.heap.FunFrames base (env :: outer)) (hf : env.frame = some L)
    (he : s.heap.get? e = some { cls := c, data := .fields vs }) (hz : 1 < vs.size)
    (hQ : ∀ h' T, s.heap.objs.size ≤ T → h'.get? e = some { cls := c, data := .fields (vs.setIfInBounds 1 (.ref T)) } → (∃ oT ts, h'.get? T = some oT ∧ oT.data = .fields ts ∧ ts[3]? = some (rawInt L)) → Kpt [e] (fra (env :: outer)) s.heap h' → Q () { s with heap := h' }) :
    wpAny M A (do let a ← frameOf env; let pl ← entryPlaceOf L hadNext; let b ← EntryCells.newEntry head a .none (rawInt L) .none pl; setField (.ref e) 1 b) Q E s := by
  have nfr : e ∉ fra (env :: outer) := not_frame hl he rfl
  refine wpAny_bind (wpAny_frameOf_fun hfr hl hf fun k1 so => ?_)
  refine wpAny_bind (wpAny_entryPlaceOf fun pl ip => ?_)
  unfold EntryCells.newEntry newFields
  refine wpAny_bind (wpAny_newObj_type ?_ (ip.sizeOk5 _ _ _ _ _))
  generalize hob : ({ cls := .type "traceback", dict := none, data := .fields ([head, .ref L, .none, rawInt L, .none] ++ (if pl.isEmpty then List.replicate 6 Value.none else pl)).toArray } : Obj) = ob
  have e1 : k1.get? e = some { cls := c, data := .fields vs } := (so.2.1 e nfr).trans he
  have e2 := Heap.get?_push_of_some (h := k1) ob e1
  have nT : k1.objs.size ≠ e := Nat.ne_of_gt (Heap.lt_size e1)
  refine wpAny_setField e2 rfl hz (hQ _ k1.objs.size (Nat.le_of_eq so.1.symm) ?_ ?_ ⟨fun b o eb nb mb => ?_, fun b o eb nb mb => ?_⟩)
  · exact Heap.get?_update_self _ e2 rfl
  · refine ⟨ob, ([head, .ref L, .none, rawInt L, .none] ++ (if pl.isEmpty then List.replicate 6 Value.none else pl)).toArray, ?_, by rw [← hob], by simp⟩
    rw [Heap.get?_update_other _ _ (Ne.symm nT)]
    exact Heap.get?_push_size k1 (by rw [← hob]; rfl)
  · have nb' : b ≠ e := fun z => nb (by rw [z]; exact List.mem_cons_self)
    rw [Heap.get?_update_other _ _ (Ne.symm nb')]
    exact Heap.get?_push_of_some _ ((so.2.1 b mb).trans eb)
  · have nb' : b ≠ e := fun z => nb (by rw [z]; exact List.mem_cons_self)
    obtain ⟨sl, q⟩ := so.2.2 b o eb
    exact ⟨sl, by rw [Heap.get?_update_other _ _ (Ne.symm nb')]; exact Heap.get?_push_of_some _ q⟩
theorem set1 {vs : Array Value} {v : Value} (h : 1 < vs.size) : (vs.setIfInBounds 1 v)[1]? = some v := by simp [h]
theorem note_new {base : Heap} {env : Env} {outer : List Env} {L e C : Addr} {vs : Array Value} {Q : Unit → Shared → Prop} (hfr : A.frames = some (env :: outer)) (hl : s.heap.FunFrames base (env :: outer)) (hf : env.frame = some L)
    (he : s.heap.get? e = some { cls := .ref C, data := .fields vs }) (h1 : vs[1]? = some .none)
    (hQ : ∀ h' T, s.heap.objs.size ≤ T → Exc h' e T C (rawInt L) → Kpt [e] (fra (env :: outer)) s.heap h' → Q () { s with heap := h' }) : wpAny M A (noteFrame (.ref e) env) Q E s := by
  have hz : 1 < vs.size := (Array.getElem?_eq_some_iff.mp h1).1
  unfold noteFrame
  simp only [hf]
  refine wpAny_bind (wpAny_field he rfl h1 ?_)
  rw [if_neg (by decide)]
  refine entry_new hfr hl hf he hz fun h' T hT ho ht kp => hQ h' T hT ⟨⟨_, ho, set1 hz⟩, ht, fun z => ?_⟩ kp
  rw [z] at hT
  exact absurd (Heap.lt_size he) (Nat.not_lt.mpr hT)
theorem note_on {base : Heap} {env : Env} {outer : List Env} {L e T0 C : Addr} {Q : Unit → Shared → Prop} (hfr : A.frames = some (env :: outer)) (hl : s.heap.FunFrames base (env :: outer)) (hf : env.frame = some L) (x : Exc s.heap e T0 C .none)
    (hQ : ∀ h' T, s.heap.objs.size ≤ T → Exc h' e T C (rawInt L) → Kpt [e, T0] (fra (env :: outer)) s.heap h' → Q () { s with heap := h' }) : wpAny M A (noteFrame (.ref e) env) Q E s := by
  obtain ⟨⟨vs, he, h1⟩, ⟨oT, ts, hT, dT, h3⟩, ne⟩ := x
  have hz : 1 < vs.size := (Array.getElem?_eq_some_iff.mp h1).1
  unfold noteFrame
  simp only [hf]
  refine wpAny_bind (wpAny_field he rfl h1 ?_)
  rw [if_pos (show (Value.ref T0 != Value.none) = true by simp)]
  refine wpAny_bind (wpAny_field hT dT h3 ?_)
  rw [if_neg (show ¬ ((Value.none == rawInt L) = true) by simp [rawInt])]
  refine wpAny_bind (wpAny_setField hT dT (Array.getElem?_eq_some_iff.mp h3).1 ?_)
  have oth : ∀ b, b ≠ T0 → (s.heap.update T0 (Obj.mapFields (·.setIfInBounds 3 Value.none))).get? b = s.heap.get? b := fun b hb => Heap.get?_update_other _ _ (Ne.symm hb)
  have k0 : Kpt [e, T0] (fra (env :: outer)) s.heap (s.heap.update T0 (Obj.mapFields (·.setIfInBounds 3 Value.none))) := ⟨fun b o eb nb _ => (oth b fun z => nb (by rw [z]; simp)).trans eb, fun b o eb nb _ => ⟨o.slots, (oth b fun z => nb (by rw [z]; simp)).trans eb⟩⟩
  have hl' : (s.heap.update T0 (Obj.mapFields (·.setIfInBounds 3 Value.none))).FunFrames base (env :: outer) := k0.funs hl fun b hb => by
    rcases List.mem_cons.mp hb with z | z
    · rw [z]; exact not_frame hl he rfl
    · rw [List.mem_singleton.mp z]; exact not_frame hl hT dT
  refine entry_new (s := { s with heap := s.heap.update T0 (Obj.mapFields (·.setIfInBounds 3 Value.none)) }) hfr hl' hf ((oth e (Ne.symm ne)).trans he) hz fun h' T hle ho ht kp => ?_
  have hsz : (s.heap.update T0 (Obj.mapFields (·.setIfInBounds 3 Value.none))).objs.size = s.heap.objs.size := Heap.size_after_update ..
  have hle' : s.heap.objs.size ≤ T := by rw [← hsz]; exact hle
  refine hQ h' T hle' ⟨⟨_, ho, set1 hz⟩, ht, fun z => ?_⟩ (k0.trans (kp.mono fun b hb => by rw [List.mem_singleton.mp hb]; simp))
  rw [z] at hle'
  exact absurd (Heap.lt_size he) (Nat.not_lt.mpr hle')
theorem flight_set {e T C : Addr} {fl : Value} {to : Option Addr} {Q : Unit → Shared → Prop} (x : Exc s.heap e T C fl)
    (hQ : ∀ h', Exc h' e T C (to.elim Value.none fun f => rawInt f) → (∀ b, b ≠ T → h'.get? b = s.heap.get? b) → h'.objs.size = s.heap.objs.size → Q () { s with heap := h' }) : wpAny M A (setFlight (.ref e) to) Q E s := by
  obtain ⟨⟨vs, he, h1⟩, ⟨oT, ts, hT, dT, h3⟩, ne⟩ := x
  have hz : 3 < ts.size := (Array.getElem?_eq_some_iff.mp h3).1
  unfold setFlight
  refine wpAny_bind (wpAny_field he rfl h1 ?_)
  rw [if_pos (show (Value.ref T != Value.none) = true by simp)]
  have oth : ∀ b, b ≠ T → (s.heap.update T (Obj.mapFields (·.setIfInBounds 3 (to.elim Value.none fun f => rawInt f)))).get? b = s.heap.get? b := fun b hb => Heap.get?_update_other _ _ (Ne.symm hb)
  refine wpAny_setField hT dT hz (hQ _ ⟨⟨vs, (oth e (Ne.symm ne)).trans he, h1⟩, ⟨_, _, Heap.get?_update_self _ hT (Obj.isFreed_of_fields (Obj.data_mapFields dT _)), Obj.data_mapFields dT _, by simp [hz]⟩, ne⟩ oth (Heap.size_after_update ..))
end
section
variable {M : Model} {A : Around} {E : Value → Shared → Prop}
structure XCls (h : Heap) (C : Addr) (bm : List Value) : Prop where
  ex : ∃ nm q N bs hdct sn sub ab col dd k0 k1 k2 k3 k5 newId, h.get? C = some (excClassObj nm q C N bs bm hdct sn sub ab col dd k0 k1 k2 k3 k5 newId)
  bs : bm.contains (.type "BaseException") = true
theorem exc_hit {s : Shared} {C D e : Addr} {bm bd : List Value} {oe : Obj} {b : Bool} {Q : Bool → Shared → Prop} (xC : XCls s.heap C bm) (xD : XCls s.heap D bd) (he : s.heap.get? e = some oe) (hc : oe.cls = .ref C)
    (hit : (Value.ref C :: bm).contains (.ref D) = b) (hq : Q b s) : wpAny M A (excMatches (.ref e) (.ref D)) Q E s := by
  obtain ⟨hp, g, d, tk, os⟩ := s
  obtain ⟨⟨nm, q, N, bs, hd, sn, sub, ab, col, dd, k0, k1, k2, k3, k5, ni, hC⟩, _⟩ := xC
  obtain ⟨⟨nm', q', N', bs', hd', sn', sub', ab', col', dd', k0', k1', k2', k3', k5', ni', hD⟩, hB⟩ := xD
  have hB' : (Value.ref D :: bd).contains (.type "BaseException") = true := by rw [List.contains_cons, hB, Bool.or_true]
  have nt := tc_notTuple
  unfold excMatches
  repeat (first
    | (with_reducible refine wpAny_loadPart_at hD ?_)
    | (with_reducible refine wpAny_isSubtype_exc hD ?_; rw [hB'])
    | (with_reducible refine wpAny_loadPart_at he ?_; rw [hc])
    | (with_reducible refine wpAny_isSubtype_exc hC ?_; rw [hit])
    | wp_step)
  all_goals (cases b <;> (try wp_walk) <;> exact hq)
end
section
variable {P : Program} {w : World} {H H' : Hp} {h h1 h2 : Heap} {fs fs' S ex : List Addr}
theorem objOk_there {a : Addr} {o : HO} (x : ObjOk P w H h a o) : ∃ ob, h.get? a = some ob := by
  cases o with
  | lst xs => obtain ⟨_, _, _, _, e⟩ := x; exact ⟨_, e⟩
  | tup xs => obtain ⟨_, _, _, ob, e, _⟩ := x; exact ⟨_, e⟩
  | dK kvs => obtain ⟨_, _, _, _, o, _, _, e, _⟩ := x; exact ⟨_, e⟩
  | dT kvs => exact False.elim x
  | set S n => obtain ⟨o, _, _, _, e, _⟩ := x; exact ⟨_, e⟩
  | ins C dx f => obtain ⟨_, _, _, e, _⟩ := x; exact ⟨_, e⟩
  | own y => exact x
  | xd f => obtain ⟨_, ⟨_, _, _, e, _⟩, _⟩ := x; exact ⟨_, e⟩
  | rng lo hi => obtain ⟨_, _, _, e⟩ := x; exact ⟨_, e⟩
  | frz ob u => exact ⟨_, x.1⟩
  | tbl ps => exact ⟨_, show h.get? a = some _ from x⟩
  | met f y => exact ⟨_, show h.get? a = some _ from x⟩
  | ext φ => exact x.2.1
theorem hok_none (k : HOk P w H h) {a : Addr} (e : h.get? a = none) : H a = none := by
  cases q : H a with
  | none => rfl
  | some o =>
    obtain ⟨ob, z⟩ := objOk_there (k a o q)
    rw [e] at z
    cases z
theorem un_kpt (u : Un fs ex H H' h h1) (k : Kpt S fs' h1 h2) (hS : ∀ b ∈ S, h.get? b = none) (hf : ∀ b ∈ fs', b ∈ fs ∨ h.get? b = none) : Un fs ex H H' h h2 where
  keep := fun b o e n hb hx => k.keep b o (u.keep b o e n hb hx) (fun z => by rw [hS b z] at e; cases e) fun z => by
    rcases hf b z with q | q
    · exact hb q
    · rw [q] at e; cases e
  slot := fun b o e n hb hx => by
    obtain ⟨sl, q⟩ := u.slot b o e n hb hx
    obtain ⟨sl', q'⟩ := k.any q fun z => by rw [hS b z] at e; cases e
    exact ⟨sl', q'⟩
  free := u.free
  there := fun b o e hx => by
    obtain ⟨o', q⟩ := u.there b o e hx
    obtain ⟨sl, q'⟩ := k.any q fun z => by rw [hS b z] at e; cases e
    exact ⟨_, q'⟩
  tups := u.tups
  frzs := u.frzs
  tbls := u.tbls
theorem hok_kpt (x : HOk P w H h1) (k : Kpt S fs' h1 h2) (hS : ∀ b ∈ S, H b = none) (hf : ∀ b ∈ fs', H b = none) : HOk P w H h2 := fun b o e =>
  (x b o e).stay (fun c v hc q => by
    have hn : H c ≠ none := by
      rcases hc with z | z
      · rw [z, e]; exact fun z => nomatch z
      · rw [z]; exact fun z => nomatch z
    exact k.keep c v q (fun z => hn (hS c z)) fun z => hn (hf c z)) (fun _ q => q) fun _ _ q => q
end
section
variable {X : Cx} {pins : List (Addr × Obj)} {σ : L2.St} {H : Hp} {s : Shared} {S : List Addr}
theorem inv_kpt {h' : Heap} {t' : Nat} (I : Inv X pins σ H s) (k : Kpt S (frs X.stack) s.heap h') (h0 : ∀ b ∈ S, X.s₀.heap.get? b = none) (hl : ∀ b ∈ S, b ≠ X.env.locals) (hc : ∀ b ∈ S, ∀ x c, X.env.cells.lookup x = some c → c ≠ b)
    (hp : ∀ b ∈ S, ∀ p ∈ X.pn ++ pins, p.1 ≠ b) (hn : ∀ b ∈ S, H b = none) : Inv X pins σ H { s with heap := h', toks := t' } where
  ok := I.ok
  os := I.os
  bare := I.bare
  base := un_kpt I.base k h0 fun b hb => by
    rcases List.mem_cons.mp (I.stkSub b hb) with z | z
    · refine .inr ?_
      rw [z]
      exact Heap.get?_none_of_le I.ok.above
    · exact .inl z
  loc := by
    obtain ⟨m, ⟨o, es, ep, ho, r⟩, hv⟩ := I.loc
    obtain ⟨sl, q⟩ := k.any ho fun z => hl _ z rfl
    refine ⟨m, ⟨_, es, ep, q, r⟩, fun i x v e1 e2 e3 => ?_⟩
    obtain ⟨u, ru, l⟩ := hv i x v e1 e2 e3
    refine ⟨u, ru, ?_⟩
    rcases l with l | ⟨kk, c, e, oc, hoc, hd⟩
    · exact .inl l
    · obtain ⟨sl', q'⟩ := k.any hoc fun z => hc c z x c e rfl
      exact .inr ⟨kk, c, e, _, q', hd⟩
  cell := fun x c e => by
    obtain ⟨v, oc, hoc, hd⟩ := I.cell x c e
    obtain ⟨sl', q'⟩ := k.any hoc fun z => hc c z x c e rfl
    exact ⟨v, _, q', hd⟩
  free := I.free
  freeC := I.freeC
  pin := fun p hp' => by
    obtain ⟨e, n, ne, nf, d⟩ := I.pin p hp'
    refine ⟨k.keep p.1 p.2 e (fun z => hp p.1 z p hp' rfl) (fun z => ?_), n, ne, nf, d⟩
    rcases List.mem_cons.mp (I.stkSub p.1 z) with q | q
    · exact ne q
    · exact nf q
  hok := hok_kpt I.hok k hn I.stkFree
  len := I.len
theorem inv_track {a : Addr} {o : HO} (I : Inv X pins σ H s) (h0 : X.s₀.heap.get? a = none) (hl : a ≠ X.env.locals) (hc : ∀ x c, X.env.cells.lookup x = some c → c ≠ a) (hp : ∀ p ∈ X.pn ++ pins, p.1 ≠ a) (hn : H a = none)
    (ok : ObjOk X.prog X.w (upd H a o) s.heap a o) : Inv X pins σ (upd H a o) s where
  ok := I.ok
  os := I.os
  bare := I.bare
  base := ⟨I.base.keep, I.base.slot, fun b ob e n hx => by rw [upd_ne fun z => by rw [z, h0] at e; cases e]; exact I.base.free b ob e n hx, I.base.there,
    fun b xs e => by have q := I.base.tups b xs e; rw [upd_ne (ne_of_none q hn)]; exact q, fun b ob u e => by have q := I.base.frzs b ob u e; rw [upd_ne (ne_of_none q hn)]; exact q,
    fun b ps e => by obtain ⟨m, q⟩ := I.base.tbls b ps e; exact ⟨m, by rw [upd_ne (ne_of_none q hn)]; exact q⟩⟩
  loc := I.loc
  cell := I.cell
  free := by rw [upd_ne (Ne.symm hl)]; exact I.free
  freeC := fun x c e => by rw [upd_ne (hc x c e)]; exact I.freeC x c e
  pin := fun p hp' => by
    obtain ⟨e, n, r⟩ := I.pin p hp'
    exact ⟨e, by rw [upd_ne (hp p hp')]; exact n, r⟩
  hok := fun b u e => by
    by_cases hb : b = a
    · subst hb; rw [upd_same] at e; cases e; exact ok
    · rw [upd_ne hb] at e
      exact (I.hok b u e).stay (fun _ _ _ q => q) (fun c q => by rw [upd_ne (ne_of_none q hn)]; exact q) fun c xs q => by rw [upd_ne (ne_of_none q hn)]; exact q
  len := I.len
theorem inv_unname {j : Nat} {n : Str} {h' : Heap} {t' : Nat} {v : Option Value} {m : Str → Option Value} (I : Inv X pins σ H s) (hN : X.N.Nodup) (hj : X.N[j]? = some n)
    (hm : s.heap.Ns X.env.locals m) (hl : ∀ (i : Nat) (x : Str) (v : V), X.N[i]? = some x → σ[i]? = some (some v) → Vis X.env.scope x → ∃ u, RelV v u ∧ Look X.env s.heap m x u)
    (hn : h'.Ns X.env.locals (fun x => if x = n then v else m x)) (hs : Heap.SameBut X.env.locals s.heap h') : Inv X pins (σ.set j none) H { s with heap := h', toks := t' } where
  ok := I.ok
  os := I.os
  bare := I.bare
  base := ⟨fun b o e k hb hx => (hs.2 b (Nat.ne_of_lt (Nat.lt_of_lt_of_le (Heap.lt_size e) I.ok.above))).trans (I.base.keep b o e k hb hx), fun b o e k hb hx => by
      obtain ⟨sl, q⟩ := I.base.slot b o e k hb hx
      exact ⟨sl, (hs.2 b (Nat.ne_of_lt (Nat.lt_of_lt_of_le (Heap.lt_size e) I.ok.above))).trans q⟩, I.base.free, fun b o e hx => by
      obtain ⟨o', q⟩ := I.base.there b o e hx
      exact ⟨o', (hs.2 b (Nat.ne_of_lt (Nat.lt_of_lt_of_le (Heap.lt_size e) I.ok.above))).trans q⟩, I.base.tups, I.base.frzs, I.base.tbls⟩
  loc := by
    refine ⟨_, hn, fun i x v' e1 e2 e3 => ?_⟩
    have hij : j ≠ i := fun z => by
      subst z
      have hlt : j < σ.length := by rw [I.len]; exact (List.getElem?_eq_some_iff.mp hj).1
      rw [List.getElem?_set_self hlt] at e2
      cases e2
    rw [List.getElem?_set_ne hij] at e2
    have hx : x ≠ n := fun z => hij (nodup_ix hN hj (z ▸ e1))
    obtain ⟨u, ru, l⟩ := hl i x v' e1 e2 e3
    refine ⟨u, ru, ?_⟩
    rcases l with ⟨k, e⟩ | ⟨k, c, e, z⟩
    · exact .inl ⟨k, by show (if x = n then v else m x) = _; rw [if_neg hx]; exact e⟩
    · exact .inr ⟨k, c, e, z.sameBut hs (I.cne x c e)⟩
  cell := fun x c e => by
    obtain ⟨v', z⟩ := I.cell x c e
    exact ⟨v', z.sameBut hs (I.cne x c e)⟩
  free := I.free
  freeC := I.freeC
  pin := fun p hp => by
    obtain ⟨e, k, ne, r⟩ := I.pin p hp
    exact ⟨(hs.2 p.1 ne).trans e, k, ne, r⟩
  hok := fun b o e => (I.hok b o e).stay (fun c u hc q => (hs.2 c (by
    rcases hc with z | z
    · rw [z]; exact ne_of_none e I.free
    · exact ne_of_none z I.free)).trans q) (fun _ q => q) fun _ _ q => q
  len := by rw [List.length_set]; exact I.len
end
def CXv (P : Program) (w : World) : CXT := fun outer H s E e s' => ∃ (ea T C : Addr) (H' : Hp), e = .ref ea ∧ Exc s'.heap ea T C .none ∧ s.heap.get? ea = none ∧ s.heap.get? T = none ∧ H' ea = none ∧ H' T = none ∧
  s'.os = s.os ∧ AllBare s'.gens ∧ Un (frs outer) [] H H' s.heap s'.heap ∧ HOk P w H' s'.heap ∧ E (.ref C) none H'
def Lands (X : Cx) (E : XK) : Prop := ∀ (pins : List (Addr × Obj)) (σ : L2.St) (H : Hp) (s : Shared) (h' : Heap) (ea C : Addr) (vs : Array Value), Inv X pins σ H s → (∀ b o, s.heap.get? b = some o → h'.get? b = some o) → s.heap.get? ea = none →
  h'.get? ea = some { cls := .ref C, data := .fields vs } → vs[1]? = some .none → E (.ref C) none H → X.xe (.ref ea) { s with heap := h' }
section
variable {P : Program} {w : World} {K : PySem.W.Frag} {mg : Str → Option Value} {base : Heap} {N : List Str} {qual : Str} {scope : Scope} {f : Addr} {cd : Value} {A : Around} {outer : List Env} {s0 : Shared} {H0 : Hp} {E : XK}
theorem old_none {X : Cx} {pins : List (Addr × Obj)} {σ : L2.St} {H : Hp} {s : Shared} (I : Inv X pins σ H s) (hex : X.ex = []) {b : Addr} (e : s.heap.get? b = none) : X.s₀.heap.get? b = none := by
  cases q : X.s₀.heap.get? b with
  | none => rfl
  | some o =>
    obtain ⟨o', z⟩ := I.base.there b o q (by rw [hex]; simp)
    rw [e] at z
    cases z
theorem size_none {h : Heap} {b : Addr} (e : h.objs.size ≤ b) : h.get? b = none := Heap.get?_none_of_le e
theorem Fun.okX {x : Str} {st : Stmt} {f : Addr} {fd : FuncData} {N ps : List Str} {k : Nat} {sp : Sp} (F : Fun K x x st f fd) (S : FnScope N ps (defScope st)) (len : ∀ vs H Q E, sp vs H Q E → vs.length = ps.length)
    (hbody : ∀ (cdv : Value) (A : Around) (outer : List Env) (s : Shared) (H : Hp) (vs : List V) (Q : VK) (E : XK), Room k (A.deeper (envOfC x (defScope st) s.heap.objs.size f cdv)) → sp vs H Q E →
      ∃ t, PSs (cxOf (CXv P w) P w K mg base N x (defScope st) f cdv A outer s H E) (defBody st) t ∧ t { nx := fun _ H' => Q .non H', rt := Q } (start N vs) H) : FnOk P w K mg base (CXv P w) (k + 1) f fd ps sp := by
  obtain ⟨oc, od, kV, doc, pm, an, cdv, ct, osl, rfl, lk, hcd⟩ := F.ex
  exact fn_of lk hcd S len fun A outer s H vs Q E hr hsp => hbody cdv A outer s H vs Q E hr hsp
end
theorem exc_obj {K : PySem.W.Frag} {h : Heap} {C : Addr} {bmB : List Value} {newId : String} (X : K.In h) (q : PySem.W.excIn K C bmB newId = true) :
    ∃ bm N nm qn bs hd sn sub ab col dd k0 k1 k2 k3 k5 mN, K.lookup C = some (excClassObj nm qn C N bs bm hd sn sub ab col dd k0 k1 k2 k3 k5 newId) ∧ h.Ns N mN ∧ mN "__init__" = none ∧ PySem.W.tailIn K bmB bm = true := by
  unfold PySem.W.excIn at q
  cases e1 : K.lookup C with
  | none => rw [e1] at q; cases q
  | some ob =>
    rw [e1] at q
    obtain ⟨cl, dd, dt, sl⟩ := ob
    split at q
    · rename_i dd' cd sl' hq
      cases hq
      split at q
      · rename_i C' bm k0 k1 k2 k3 n k5 hm hs
        simp only [Bool.and_eq_true, beq_iff_eq, Bool.not_eq_true'] at q
        obtain ⟨⟨⟨⟨⟨rfl, rfl⟩, hdel⟩, ht⟩, hok⟩, hni⟩ := q
        obtain ⟨nm, bs, mro, ns, qn, hd, sn, sub, ab, col, del⟩ := cd
        dsimp only at hm hdel hok hni
        subst hm hdel
        have hsl : sl = #[k0, k1, k2, k3, some (.builtin n), k5] := by
          cases sl
          exact congrArg Array.mk hs
        subst hsl
        exact ⟨bm, ns, nm, qn, bs, hd, sn, sub, ab, col, dd, k0, k1, k2, k3, k5, _, rfl, .of_isNs (PySem.W.isNs_of_in X hok), PySem.W.nsMap_none_of_in X hok hni, ht⟩
      · cases q
    · cases q
def vmro : List Value := [.type "ValueError", .type "Exception", .type "BaseException", .type "object"]
abbrev VEx (K : PySem.W.Frag) (C : Addr) : Prop := PySem.W.excIn K C vmro "ValueError.__new__" = true
theorem VEx.cls {K : PySem.W.Frag} {h : Heap} {C : Addr} (X : K.In h) (q : VEx K C) : ∃ bm, XCls h C bm := by
  obtain ⟨bm, N, nm, qn, bs, hd, sn, sub, ab, col, dd, k0, k1, k2, k3, k5, mN, e, _, _, ht⟩ := exc_obj X q
  exact ⟨bm, ⟨nm, qn, N, bs, hd, sn, sub, ab, col, dd, k0, k1, k2, k3, k5, _, X _ _ e⟩, (PySem.W.tail_of_in X ht).hasType (by decide)⟩
section
variable {X : Cx} {x : Str} {C : Addr} {a : Expr} {ta : TE} {E : XK} {np cpos pos : Pos}
def tRaise (C : Addr) (ta : TE) (E : XK) : TS := fun _ σ H => tCons ta tNil σ H fun vs H1 => vs.length ≤ sizeLine ∧ E (.ref C) none H1
theorem ps_raise (hc : X.calm = true) (hg : Gl X x) (hm : X.mg x = some (.ref C)) (hx : VEx X.K C) (L : Lands X E) (ha : PE X a ta) (hdb : (x == ("__debug__" : Str)) = false := by decide)
    (hs : starEach [a] X.env = [(false, eval a X.env)] := by rfl) (hpl : (backTo cpos (starEach [a] X.env)).any (·.1) = false := by rfl) :
    PS X (.Raise (some (.Call (.Name x np) [a] [] cpos)) none pos) (tRaise C ta E) := by
  intro pins s σ H D I h
  obtain ⟨bm, N, nm, qn, bs, hd, sn, sub, ab, col, dd, k0, k1, k2, k3, k5, mN, e, hN, hni, ht⟩ := exc_obj I.ok.mod.kin hx
  have T0 := PySem.W.tail_of_in I.kIn ht
  refine wpAny_Raise_call_subT (C := C) (nm := nm) (q := qn) (N := N) (bs := bs) (bm := bm) (hdct := hd) (sn := sn) (sub := sub) (ab := ab) (col := col) (dd := dd) (k0 := k0) (k1 := k1) (k2 := k2) (k3 := k3) (k5 := k5) (mN := mN) F.excBase_ValueError (T0.hasType (by decide)) (I.ok.hd hc) hpl hni (ld_glob I hg hm ⟨rfl, ?_⟩ hdb)
  have pa : PA X [a] (tCons ta tNil) := pa_cons ha pa_nil hs
  have hA := pa cpos pins s σ H _ I h
  rw [hs] at hA ⊢
  refine Calls.evalArgs_plain (thn hA fun us s2 ⟨vs, H2, I2, r, hz, q⟩ => ?_)
  refine ⟨rfl, by rw [← r.length]; exact hz, I2.kIn _ _ e, hN.keeps I2.bk, PySem.W.tail_of_in I2.kIn ht, fun h' ea hm' => ?_⟩
  obtain ⟨t, he, _, _⟩ := hm'.there
  exact L pins σ H2 s2 h' ea C _ I2 hm'.keeps hm'.new he rfl q
end
def hand (X : Cx) (ea : Addr) : Cx := { X with A := X.A.mark (some (.ref ea)), calm := false, xe := fun _ _ => False }
section
variable {X : Cx} {pins : List (Addr × Obj)} {σ : L2.St} {H : Hp} {s : Shared} {ea : Addr}
theorem ok_hand (ok : X.Ok) : (hand X ea).Ok :=
  ⟨ok.mod, ok.kind, ok.glob, ok.blt, ok.above, ok.inj, ok.has, ok.cab, fun z => absurd (show false = true from z) Bool.false_ne_true, ok.frames, ok.stk, ok.exf, ok.bs, ok.bsz, ok.noex, ok.exfs, ok.funs, ok.frf⟩
theorem inv_hand (I : Inv X pins σ H s) : Inv (hand X ea) pins σ H s := ⟨ok_hand I.ok, I.os, I.bare, I.base, I.loc, I.cell, I.free, I.freeC, I.pin, I.hok, I.len⟩
theorem inv_unhand (ok : X.Ok) (I : Inv (hand X ea) pins σ H s) : Inv X pins σ H s := ⟨ok, I.os, I.bare, I.base, I.loc, I.cell, I.free, I.freeC, I.pin, I.hok, I.len⟩
end
def excO (ea C : Addr) : HO := .ext fun h => ∃ vs, h.get? ea = some { cls := .ref C, data := .fields vs }
theorem excO_ok {P : Program} {w : World} {H : Hp} {h : Heap} {ea C : Addr} {vs : Array Value} (e : h.get? ea = some { cls := .ref C, data := .fields vs }) : ObjOk P w H h ea (excO ea C) :=
  ⟨⟨vs, e⟩, ⟨_, e⟩, fun _ _ ⟨ws, q⟩ k => ⟨ws, k _ q⟩⟩
section
variable {X : Cx} {CX : CXT} {k : Nat} {f : Addr} {fd : FuncData} {ps : List Str} {sp : Sp} {fx x n c : Str} {e : Expr} {es : List Expr} {ta : TA} {p pos : Pos}
theorem eval_call {pins : List (Addr × Obj)} {σ : L2.St} {H : Hp} {s : Shared} {Q : VK} {E : XK} (hne : ∀ e s, X.xe e s → False) (F : FnOk X.prog X.w X.K X.mg X.base CX k f fd ps sp) (hr : Room k X.A) (hg : Gl X fx) (hm : X.mg fx = some (.ref f)) (hk : PySem.W.keepIn X.K (.ref f) = true) (hb : Binds X.K fd ps [])
    (ha : PA X (e :: es) ta) (I : Inv X pins σ H s) (h : ta σ H fun vs H1 => sp vs H1 Q E) (hdb : (fx == ("__debug__" : Str)) = false) (he : starEach (e :: es) X.env = (false, eval e X.env) :: starEach es X.env) (hpl : (backTo pos (starEach es X.env)).any (·.1) = false) :
    wpAny (model X.prog X.w) X.A (eval (.Call (.Name fx p) (e :: es) [] pos) X.env) (EP X pins σ Q) (fun e s' => ∃ H1 s1, Inv X pins σ H1 s1 ∧ CX X.stack H1 s1 E e s') s := by
  refine wpAny_Call_Name_kw (ld_glob I hg hm ?_ hdb)
  refine PySem.W.callWith_K (h₀ := X.base) I.ok.mod.kin hk (wpAny_mono (ha pos pins s σ H _ I h) (fun us s1 ⟨vs, H1, I1, r, q⟩ => ⟨I1.kIn, ?_⟩) fun _ _ z => (hne _ _ z).elim) he hpl
  have hl : us.length = ps.length := by rw [← r.length]; exact F.len _ _ _ _ q
  have hb' := hb s1 us I1.kIn (by rw [List.append_nil]; exact hl)
  rw [List.append_nil] at hb'
  refine wpAny_call (codeAny_mono (F.run X.A X.stack s1 H1 ⟨us, []⟩ us vs Q E hr I1.env0 hb' r q) fun r' s' hq => ?_)
  cases r' with
  | error e => exact ⟨H1, s1, I1, hq⟩
  | ok fl =>
    cases fl with
    | ret u => exact I1.after hq
    | next => exact False.elim hq
    | brk => exact False.elim hq
    | cont => exact False.elim hq
def Hits (K : PySem.W.Frag) (C D : Addr) : Prop := VEx K C ∧ VEx K D ∧ ∀ h : Heap, K.In h → ∀ bm, XCls h C bm → (Value.ref C :: bm).contains (.ref D) = true
def tTry (sp : Sp) (i j : Nat) (K : PySem.W.Frag) (D : Addr) (ta : TA) (tb : TS) : TS := fun De σ H => ta σ H fun vs H1 => sp vs H1 (fun v H2 => De.nx (σ.set i (some v)) H2) fun Cv _ H2 => ∃ C, Cv = .ref C ∧ Hits K C D ∧
  ∀ ea, H2 ea = none → tb { nx := fun σ3 H3 => De.nx (σ3.set j none) H3, rt := De.rt, bk := fun σ3 H3 => De.bk (σ3.set j none) H3, ct := fun σ3 H3 => De.ct (σ3.set j none) H3 } (σ.set j (some (.ref ea))) (upd H2 ea (excO ea C))
theorem ps_try {i j : Nat} {D : Addr} {b0 : Stmt} {suite : List Stmt} {tb : TS} {px ap np hp tp : Pos} (hne : ∀ e s, X.xe e s → False) (hst : X.stack = X.env :: X.outer ∧ X.env.frame = some X.env.locals) (hex : X.ex = [])
    (F : FnOk X.prog X.w X.K X.mg X.base (CXv X.prog X.w) k f fd ps sp) (hr : Room k X.A) (hg : Gl X fx) (hm : X.mg fx = some (.ref f)) (hk : PySem.W.keepIn X.K (.ref f) = true) (hb : Binds X.K fd ps []) (ha : PA X (e :: es) ta)
    (hN : X.N.Nodup) (hi : X.N[i]? = some x) (hx : X.env.scope.names.lookup x = some .local) (hj : X.N[j]? = some n) (hn : X.env.scope.names.lookup n = some .local)
    (hgc : Gl X c) (hmc : X.mg c = some (.ref D)) (hs : ∀ ea, PSs (hand X ea) (b0 :: suite) tb)
    (hsw : swapsWith (.Call (.Name fx p) (e :: es) [] pos) (some (.Name x px)) ap.line X.env = pure false := by rfl)
    (hdb : (fx == ("__debug__" : Str)) = false := by decide) (hdc : (c == ("__debug__" : Str)) = false := by decide) (he : starEach (e :: es) X.env = (false, eval e X.env) :: starEach es X.env := by rfl) (hpl : (backTo pos (starEach es X.env)).any (·.1) = false := by rfl) :
    PS X (.Try [.Assign [.Name x px] (.Call (.Name fx p) (e :: es) [] pos) ap] [.ExceptHandler (some (.Name c np)) (some n) (b0 :: suite) hp] [] [] tp) (tTry sp i j X.K D ta tb) := by
  intro pins s σ H De I h
  refine wpAny_Try_except (wpAny_execs_cons (wpAny_Assign_Name (wpAny_mono (eval_call (pos := pos) (p := p) hne F hr hg hm hk hb ha I h hdb he hpl) (fun v s1 ⟨y, H1, I1, r1, q1⟩ => ?_) fun e0 s1 hx1 => ?_) hsw))
  · exact store_ok I1 hN hi (.inl hx) r1 (fun s2 I2 => wpAny_execs_nil (wpAny_execs_nil ⟨_, H1, I2, q1⟩)) (.inr hx)
  obtain ⟨H1, s1', I1, ea, T0, C, H', rfl, xx, n1, n2, t1, t2, os, bare, un, hok, C', eC, ⟨vC, vD, hitF⟩, hand'⟩ := hx1
  cases eC
  have I' : Inv X pins σ H' s1 := I1.call' os un hok bare fun b z => absurd z (by simp)
  -- what is true of the exception's records
  have p0 : ∀ b ∈ [ea, T0], s1'.heap.get? b = none := fun b hb => by
    rcases List.mem_cons.mp hb with z | z
    · rw [z]; exact n1
    · rw [List.mem_singleton.mp z]; exact n2
  have ne0 : ∀ b, s1'.heap.get? b = none → X.s₀.heap.get? b = none ∧ b ≠ X.env.locals ∧ (∀ x c, X.env.cells.lookup x = some c → c ≠ b) ∧ ∀ p ∈ X.pn ++ pins, p.1 ≠ b := fun b hb => by
    refine ⟨old_none I1 hex hb, fun z => ?_, fun y c' ec z => ?_, fun q hq z => ?_⟩
    · obtain ⟨m, ⟨o, _, _, ho, _⟩, _⟩ := I1.loc
      rw [← z, hb] at ho; cases ho
    · obtain ⟨v, o, ho, _⟩ := I1.cell y c' ec
      rw [z, hb] at ho; cases ho
    · have := (I1.pin q hq).1
      rw [z, hb] at this; cases this
  have tH : ∀ b ∈ [ea, T0], H' b = none := fun b hb => by
    rcases List.mem_cons.mp hb with z | z
    · rw [z]; exact t1
    · rw [List.mem_singleton.mp z]; exact t2
  have fr := I'.ok.frames
  have stk := I'.stack
  rw [hst.1] at fr stk
  refine note_on (base := X.base) (outer := X.outer) fr stk hst.2 xx fun k1 T hT x1 kp1 => ?_
  have nT1 : s1.heap.get? T = none := size_none hT
  have J1 : Inv X pins σ H' { s1 with heap := k1 } := inv_kpt (t' := s1.toks) I' (S := [ea, T0]) (by rw [hst.1]; exact kp1) (fun b hb => (ne0 b (p0 b hb)).1) (fun b hb => (ne0 b (p0 b hb)).2.1) (fun b hb => (ne0 b (p0 b hb)).2.2.1) (fun b hb => (ne0 b (p0 b hb)).2.2.2) tH
  have neT : X.s₀.heap.get? T = none ∧ T ≠ X.env.locals ∧ (∀ x c, X.env.cells.lookup x = some c → c ≠ T) ∧ (∀ p ∈ X.pn ++ pins, p.1 ≠ T) ∧ H' T = none := by
    refine ⟨old_none I' hex nT1, fun z => ?_, fun y c' ec z => ?_, fun q hq z => ?_, hok_none I'.hok nT1⟩
    · obtain ⟨m, ⟨o, _, _, ho, _⟩, _⟩ := I'.loc
      rw [← z, nT1] at ho; cases ho
    · obtain ⟨v, o, ho, _⟩ := I'.cell y c' ec
      rw [z, nT1] at ho; cases ho
    · have := (I'.pin q hq).1
      rw [z, nT1] at this; cases this
  have one : ∀ {Pr : Addr → Prop}, Pr T → ∀ b ∈ [T], Pr b := fun {Pr} a b hb => by rw [List.mem_singleton.mp hb]; exact a
  have turnT : ∀ {st : Shared} {k2 : Heap} {Hx : Hp} {σx : L2.St}, Inv X pins σx Hx st → Hx T = none → (∀ b, b ≠ T → k2.get? b = st.heap.get? b) → Inv X pins σx Hx { st with heap := k2 } := fun {st k2 Hx σx} J hT' oth =>
    inv_kpt (t' := st.toks) J (S := [T]) ⟨fun b o e nb _ => (oth b fun z => nb (by rw [z]; simp)).trans e, fun b o e nb _ => ⟨o.slots, (oth b fun z => nb (by rw [z]; simp)).trans e⟩⟩ (one neT.1) (one neT.2.1) (one neT.2.2.1) (one neT.2.2.2.1) (one hT')
  refine flight_set (to := none) x1 fun k2 x2 oth2 _ => ?_
  have J2 : Inv X pins σ H' { s1 with heap := k2 } := turnT (st := { s1 with heap := k1 }) J1 neT.2.2.2.2 oth2
  obtain ⟨bmC, xC⟩ := VEx.cls J2.kIn vC
  obtain ⟨bmD, xD⟩ := VEx.cls J2.kIn vD
  obtain ⟨vs2, ob2, _⟩ := x2.ob
  refine wpAny_handleBy_cons (codeAny_handlers_test (ld_glob (X := hand X ea) (inv_hand J2) hgc hmc ?_ hdc)) (fun z => by cases z)
  refine exc_hit (s := { s1 with heap := k2 }) xC xD ob2 rfl (hitF _ J2.kIn _ xC) ?_
  show codeAny _ _ _ _ _
  refine codeAny_handlers_suite_as ?_
  refine flight_set (s := { s1 with heap := k2 }) (to := none) x2 fun k3 x3 oth3 _ => ?_
  have J3 : Inv X pins σ H' { s1 with heap := k3 } := turnT (st := { s1 with heap := k2 }) J2 neT.2.2.2.2 oth3
  obtain ⟨vs3, ob3, _⟩ := x3.ob
  have ne1 := ne0 ea n1
  have J4 : Inv X pins σ (upd H' ea (excO ea C)) { s1 with heap := k3 } := inv_track J3 ne1.1 ne1.2.1 ne1.2.2.1 ne1.2.2.2 t1 (excO_ok ob3)
  refine store_ok (X := hand X ea) (inv_hand J4) hN hj (.inl hn) (show RelV (.ref ea) (.ref ea) from rfl) (fun s5 I5 => ?_) (.inr hn)
  refine wpAny_mono (hs ea pins s5 _ _ _ I5 (hand' ea t1)) (fun fl s6 q6 => ?_) fun _ _ z => False.elim z
  have hcls : (X.env.scope.kind == .class || (X.env.scope.kind == .module && X.env.locals != X.env.globals)) = false := by rw [I.ok.kind]; rfl
  have goes : ∀ {σ6 : L2.St} {H6 : Hp} {Qx : Shared → Prop}, Inv (hand X ea) pins σ6 H6 s6 → (∀ s7, Inv X pins (σ6.set j none) H6 s7 → Qx s7) → wpAny (model X.prog X.w) X.A (do bindName X.env n .none; unbindBehindTheSuite X.env n hp) (fun _ s7 => Qx s7) X.xe s6 := fun {σ6 H6 Qx} I6 hq => by
    have I7 : Inv X pins σ6 H6 s6 := inv_unhand I.ok I6
    obtain ⟨m, hns, hl⟩ := id I7.loc
    exact wpAny_nameGoes_keeps hn hns hcls fun h' v hn' hs' => hq _ (inv_unname I7 hN hj hns hl hn' hs')
  cases fl with
  | next =>
    obtain ⟨σ6, H6, I6, q⟩ := q6
    exact goes I6 fun s7 I7 => ⟨_, H6, I7, q⟩
  | brk =>
    obtain ⟨σ6, H6, I6, q⟩ := q6
    exact goes I6 fun s7 I7 => ⟨_, H6, I7, q⟩
  | cont =>
    obtain ⟨σ6, H6, I6, q⟩ := q6
    exact goes I6 fun s7 I7 => ⟨_, H6, I7, q⟩
  | ret u =>
    obtain ⟨v, σ6, H6, I6, r6, q⟩ := q6
    exact goes I6 fun s7 I7 => ⟨v, _, H6, I7, r6, q⟩
end
end L3
namespace L3
open PySem PySem.Spec PyProof.Rows L2
def EqQ (K : PySem.W.Frag) (H : Hp) : Nat → V → V → Bool → Prop
  | 0, x, y, b => flatV x = true ∧ flatV y = true ∧ b = eqV x y
  | n + 1, x, y, b => EqQ K H n x y b ∨ ∃ (p r : Addr) (xs ys : List V) (e : Nat → Bool), x = .ref p ∧ y = .ref r ∧ ((SqL K H p xs ∧ SqL K H r ys) ∨ (SqT K H p xs ∧ SqT K H r ys)) ∧
      (∀ (i : Nat) (x y : V), xs[i]? = some x → ys[i]? = some y → EqQ K H n x y (e i)) ∧ b = (decide (xs.length = ys.length) && (List.range xs.length).all e)
def EqS (K : PySem.W.Frag) (H : Hp) (n : Nat) (x y : V) (b : Bool) : Prop := ∃ (p r : Addr) (xs ys : List V) (e : Nat → Bool), x = .ref p ∧ y = .ref r ∧ ((SqL K H p xs ∧ SqL K H r ys) ∨ (SqT K H p xs ∧ SqT K H r ys)) ∧
      (∀ (i : Nat) (x y : V), xs[i]? = some x → ys[i]? = some y → EqQ K H n x y (e i)) ∧ b = (decide (xs.length = ys.length) && (List.range xs.length).all e)
theorem EqQ.flat {K : PySem.W.Frag} {H : Hp} {x y : V} (hx : flatV x = true) (hy : flatV y = true) : ∀ n, EqQ K H n x y (eqV x y)
  | 0 => ⟨hx, hy, rfl⟩
  | n + 1 => .inl (EqQ.flat hx hy n)
theorem eqV_self {x : V} (h : flatV x = true) : eqV x x = true := by
  cases x with
  | non => rfl
  | bl b => show (b == b) = true; simp
  | int b => show (b == b) = true; simp
  | str b => show (b == b) = true; simp
  | _ => exact absurd (show false = true from h) Bool.false_ne_true
theorem EqQ.self {K : PySem.W.Frag} {H : Hp} {x : V} (hx : flatV x = true) (n : Nat) : EqQ K H n x x true := by
  have := EqQ.flat (K := K) (H := H) hx hx n
  rw [eqV_self hx] at this; exact this
theorem all_true (n : Nat) : (List.range n).all (fun _ => true) = true := by simp
theorem EqS.yes {K : PySem.W.Frag} {H : Hp} {n : Nat} {p r : Addr} {xs ys : List V} (h : (SqL K H p xs ∧ SqL K H r ys) ∨ (SqT K H p xs ∧ SqT K H r ys)) (hl : xs.length = ys.length) (he : ∀ (i : Nat) (x y : V), xs[i]? = some x → ys[i]? = some y → EqQ K H n x y true) : EqS K H n (.ref p) (.ref r) true :=
  ⟨p, r, xs, ys, fun _ => true, rfl, rfl, h, he, by rw [decide_eq_true hl, all_true]; rfl⟩
theorem EqS.same {K : PySem.W.Frag} {H : Hp} {p r : Addr} {xs : List V} (h : (SqL K H p xs ∧ SqL K H r xs) ∨ (SqT K H p xs ∧ SqT K H r xs)) (hf : xs.all flatV = true) : EqS K H 0 (.ref p) (.ref r) true :=
  EqS.yes h rfl fun i x y hx hy => by
    rw [hx] at hy; cases hy
    exact EqQ.self (List.all_eq_true.mp hf x (List.mem_of_getElem? hx)) 0
section
variable {X : Cx} {pins : List (Addr × Obj)} {σ : L2.St} {H : Hp} {s : Shared}
theorem eqq_self (I : Inv X pins σ H s) : ∀ {n : Nat} {x : V} {b : Bool}, EqQ X.K H n x x b → b = true
  | 0, x, b, h => by
    obtain ⟨h1, _, e⟩ := h
    rw [e]; exact eqV_self h1
  | n + 1, x, b, h => by
    rcases h with h | ⟨p, r, xs, ys, e, e1, e2, hq, he, rfl⟩
    · exact eqq_self I h
    · rw [e1] at e2; cases e2
      have exy : xs = ys := by
        rcases hq with ⟨a, c⟩ | ⟨a, c⟩
        · exact I.list_inj a c
        · exact I.tuple_inj a c
      subst exy
      rw [decide_eq_true rfl, Bool.true_and, List.all_eq_true]
      intro i hi
      have hlt := List.mem_range.mp hi
      exact eqq_self I (he i xs[i] xs[i] (List.getElem?_eq_getElem hlt) (List.getElem?_eq_getElem hlt))
theorem vals_at {xs : List V} {us : List Value} (r : Vals xs us) {j : Nat} (h : j < us.length) : ∃ x, xs[j]? = some x ∧ RelV x us[j] := by
  have hx : j < xs.length := by rw [r.length]; exact h
  obtain ⟨u, e, q⟩ := r.get (List.getElem?_eq_getElem hx)
  rw [List.getElem?_eq_getElem h] at e
  cases e
  exact ⟨_, List.getElem?_eq_getElem hx, q⟩
theorem rng_min {a b : Nat} {e : Nat → Bool} : ((List.range (min a b)).all e && a == b) = (decide (a = b) && (List.range a).all e) := by
  by_cases h : a = b
  · subst h; simp
  · simp [h]
theorem eqs_rc {n : Nat} {A : Around} (I : Inv X pins σ H s) (hu : A.units + 1 < cLine) (ih : ∀ (x y : V) (b : Bool) (u v : Value), RelV x u → RelV y v → EqQ X.K H n x y b → SeqAt.EqAt A.in1 s u v b)
    {p r : Addr} {xs ys : List V} {e : Nat → Bool} (hq : (SqL X.K H p xs ∧ SqL X.K H r ys) ∨ (SqT X.K H p xs ∧ SqT X.K H r ys)) (he : ∀ (i : Nat) (x y : V), xs[i]? = some x → ys[i]? = some y → EqQ X.K H n x y (e i)) :
    SeqAt.RcAt A s (.ref p) (.ref r) (decide (xs.length = ys.length) && (List.range xs.length).all e) := by
  have hu' : A.units < cLine := by omega
  rcases hq with ⟨a, c⟩ | ⟨a, c⟩
  · obtain ⟨is, r1, p1, z1⟩ := I.list a
    obtain ⟨js, r2, p2, z2⟩ := I.list c
    have l1 := r1.length
    have l2 := r2.length
    by_cases hl : xs.length = ys.length
    · rw [decide_eq_true hl, Bool.true_and]
      have q := SeqAt.RcAt.lists (e := e) p1.isList p2.isList (by rw [List.size_toArray, List.size_toArray]; omega) hu' fun j h1 h2 => by
        rw [List.size_toArray] at h1 h2
        obtain ⟨x, ex, rx⟩ := vals_at r1 h1
        obtain ⟨y, ey, ry⟩ := vals_at r2 h2
        rw [List.getElem_toArray, List.getElem_toArray]
        exact ih x y _ _ _ rx ry (he j x y ex ey)
      rw [List.size_toArray, ← l1] at q
      exact q
    · rw [decide_eq_false hl, Bool.false_and]
      exact SeqAt.RcAt.lists_lengths p1.isList p2.isList (by rw [List.size_toArray, List.size_toArray]; simp; omega) hu'
  · obtain ⟨is, r1, p1, z1⟩ := I.tuple a
    obtain ⟨js, r2, p2, z2⟩ := I.tuple c
    have l1 := r1.length
    have l2 := r2.length
    have q := SeqAt.RcAt.tuples (e := e) p1 p2 hu' fun j h1 h2 => by
      rw [List.size_toArray] at h1 h2
      obtain ⟨x, ex, rx⟩ := vals_at r1 h1
      obtain ⟨y, ey, ry⟩ := vals_at r2 h2
      rw [List.getElem_toArray, List.getElem_toArray]
      exact ih x y _ _ _ rx ry (he j x y ex ey)
    rw [List.size_toArray, List.size_toArray, ← l1, ← l2, rng_min] at q
    exact q
theorem eqs_ne {n : Nat} {A : Around} (I : Inv X pins σ H s) (hu : A.units + 1 < cLine) (ih : ∀ (x y : V) (b : Bool) (u v : Value), RelV x u → RelV y v → EqQ X.K H n x y b → SeqAt.EqAt A.in1 s u v b)
    {p r : Addr} {xs ys : List V} {e : Nat → Bool} (hq : (SqL X.K H p xs ∧ SqL X.K H r ys) ∨ (SqT X.K H p xs ∧ SqT X.K H r ys)) (he : ∀ (i : Nat) (x y : V), xs[i]? = some x → ys[i]? = some y → EqQ X.K H n x y (e i)) :
    SeqAt.RcNeAt A s (.ref p) (.ref r) (!(decide (xs.length = ys.length) && (List.range xs.length).all e)) := by
  have hu' : A.units < cLine := by omega
  rcases hq with ⟨a, c⟩ | ⟨a, c⟩
  · obtain ⟨is, r1, p1, z1⟩ := I.list a
    obtain ⟨js, r2, p2, z2⟩ := I.list c
    have l1 := r1.length
    have l2 := r2.length
    by_cases hl : xs.length = ys.length
    · rw [decide_eq_true hl, Bool.true_and]
      have q := SeqAt.RcNeAt.lists (e := e) p1.isList p2.isList (by rw [List.size_toArray, List.size_toArray]; omega) hu' fun j h1 h2 => by
        rw [List.size_toArray] at h1 h2
        obtain ⟨x, ex, rx⟩ := vals_at r1 h1
        obtain ⟨y, ey, ry⟩ := vals_at r2 h2
        rw [List.getElem_toArray, List.getElem_toArray]
        exact ih x y _ _ _ rx ry (he j x y ex ey)
      rw [List.size_toArray, ← l1] at q
      exact q
    · rw [decide_eq_false hl, Bool.false_and]
      exact SeqAt.RcNeAt.lists_lengths p1.isList p2.isList (by rw [List.size_toArray, List.size_toArray]; simp; omega) hu'
  · obtain ⟨is, r1, p1, z1⟩ := I.tuple a
    obtain ⟨js, r2, p2, z2⟩ := I.tuple c
    have l1 := r1.length
    have l2 := r2.length
    have q := SeqAt.RcNeAt.tuples (e := e) p1 p2 hu' fun j h1 h2 => by
      rw [List.size_toArray] at h1 h2
      obtain ⟨x, ex, rx⟩ := vals_at r1 h1
      obtain ⟨y, ey, ry⟩ := vals_at r2 h2
      rw [List.getElem_toArray, List.getElem_toArray]
      exact ih x y _ _ _ rx ry (he j x y ex ey)
    rw [List.size_toArray, List.size_toArray, ← l1, ← l2, rng_min] at q
    exact q
theorem eqq_at (I : Inv X pins σ H s) : ∀ {n : Nat} {A : Around} {x y : V} {b : Bool} {u v : Value}, A.units + n < cLine → RelV x u → RelV y v → EqQ X.K H n x y b → SeqAt.EqAt A s u v b
  | 0, A, x, y, b, u, v, hu, rx, ry, h => by
    obtain ⟨h1, h2, e⟩ := h
    rw [e]; exact eqAt_V rx ry h1 h2
  | n + 1, A, x, y, b, u, v, hu, rx, ry, h => by
    rcases h with h | ⟨p, r, xs, ys, e, rfl, rfl, hq, he, hb⟩
    · exact eqq_at I (by omega) rx ry h
    · cases rx; cases ry
      by_cases hp : p = r
      · subst hp
        have := eqq_self I (n := n + 1) (.inr ⟨p, p, xs, ys, e, rfl, rfl, hq, he, hb⟩)
        rw [this]; exact SeqAt.EqAt.same _
      · rw [hb]
        exact SeqAt.EqAt.of_refs hp (eqs_rc I (by omega) (fun x y b u v rx ry q => eqq_at I (A := A.in1) (by show A.units + 1 + n < cLine; omega) rx ry q) hq he)
theorem op_eqS (hu : X.A.units + 64 < cLine) : OpR X (compareOp .Eq) (fun x y H Q => ∃ n b, n ≤ 20 ∧ EqS X.K H n x y b ∧ Q (.bl b) H) := by
  intro pins s σ H x y v u Q I rx ry h
  obtain ⟨n, b, hn, ⟨p, r, xs, ys, e, rfl, rfl, hq, he, rfl⟩, q⟩ := h
  cases rx; cases ry
  exact eqs_rc I (by omega) (fun x y b u v rx ry q => eqq_at I (A := X.A.in1) (by show X.A.units + 1 + n < cLine; omega) rx ry q) hq he _ _ _ _ ⟨.bl _, H, I, rfl, q⟩
theorem op_neS (hu : X.A.units + 64 < cLine) : OpR X (compareOp .NotEq) (fun x y H Q => ∃ n b, n ≤ 20 ∧ EqS X.K H n x y b ∧ Q (.bl (!b)) H) := by
  intro pins s σ H x y v u Q I rx ry h
  obtain ⟨n, b, hn, ⟨p, r, xs, ys, e, rfl, rfl, hq, he, rfl⟩, q⟩ := h
  cases rx; cases ry
  exact eqs_ne I (by omega) (fun x y b u v rx ry q => eqq_at I (A := X.A.in1) (by show X.A.units + 1 + n < cLine; omega) rx ry q) hq he _ _ _ _ ⟨.bl _, H, I, rfl, q⟩
end
end L3
namespace L3
open PySem PySem.Spec PyProof.Rows L2 PySem.W
theorem ga_kind : builtinKind "BaseException.__getattribute__" = some .slot := by decide +kernel
theorem ga_split : splitId "BaseException.__getattribute__" = some ("BaseException", "__getattribute__") := by decide +kernel
section
variable {M : Model} {A : Around} {E : Value → Shared → Prop} {s : Shared}
theorem ga_check {x : Addr} {nameV : Value} {Q : Unit → Shared → Prop} (L : PySem.W.Looks M s.heap (isInstance (.ref x) (.type "BaseException")) true) (hq : Q () s) : wpAny M A (checkBuiltinCall "BaseException.__getattribute__" ⟨[.ref x, nameV], []⟩) Q E s := by
  have ha := PySem.F.args_bexc_ga (.ref x) nameV
  simp only [checkBuiltinCall, ga_kind, ga_split]
  refine wpAny_bind (L.here ?_)
  simp only [Bool.not_true, Bool.false_eq_true, if_false]
  cases hsig : Manifest.signature? "BaseException.__getattribute__" with
  | none => exact wpAny_pure hq
  | some sig =>
    simp only [argsOk, hsig] at ha
    have h2 : Bind.checkArgs "BaseException.__getattribute__" sig ⟨[.ref x, nameV], []⟩ = pure () := ha
    show wpAny M A (Bind.checkArgs "BaseException.__getattribute__" sig ⟨[.ref x, nameV], []⟩) Q E s
    rw [h2]; exact wpAny_pure hq
end
section
variable {prog : Program} {w : World} {A : Around} {E : Value → Shared → Prop} {s : Shared} {K : PySem.W.Frag} {x D : Addr} {ox : Obj}
theorem exc_entry {tk : Tok} {Q : Fin → Shared → Prop} (hf : PySem.W.findObj K D none "__class__" = some (.bind (.builtin "getset_descriptor.__get__") (.builtin "object.__class__"))) (hm : PySem.W.mroIn K D (.type "object") = some true)
    (X : K.In s.heap) (I : PySem.W.InstAt s.heap x ox D none) (h : Q (.done (.ret (.ref D))) s) : wpAny (model prog w) A (Builtin.«object.__getattribute__» ⟨[.ref x, .str "__class__" tk], []⟩) Q E s := by
  have L0 := I.type (M := model prog w)
  have L1 := PySem.W.looks_find (M := model prog w) X I hf
  refine wpAny_bind (wpAny_pure (wpAny_bind (wpAny_pure (wpAny_bind (L0.here (wpAny_bind (L1.here ?_)))))))
  show wpAny _ _ (holding [.builtin "object.__class__"] (call (.builtin "getset_descriptor.__get__") [.builtin "object.__class__", .ref x, .ref D]) >>= ret) _ _ _
  exact wpAny_bind (wpAny_holding (wpAny_call (PySem.W.class_get (tp := .ref D) X I hm (wpAny_pure h))))
theorem exc_call {tk : Tok} {R : Result → Shared → Prop} (hb : PySem.W.mroIn K D (.type "BaseException") = some true)
    (hf : PySem.W.findObj K D none "__class__" = some (.bind (.builtin "getset_descriptor.__get__") (.builtin "object.__class__"))) (hm : PySem.W.mroIn K D (.type "object") = some true)
    (X : K.In s.heap) (I : PySem.W.InstAt s.heap x ox D none) (h : R (.ok (.ret (.ref D))) s) : codeAny (model prog w) A (.call (.builtin "BaseException.__getattribute__") ⟨[.ref x, .str "__class__" tk], []⟩) R s :=
  codeAny_call_builtin PySem.F.excAttr_ValueError.ga.plain PySem.F.entry_bexc_ga (ga_check (I.type.andThen (PySem.W.looks_mroIn X hb)) (exc_entry hf hm X I h))
theorem exc_own {tk : Tok} {Q : Value → Shared → Prop} (gh : PySem.W.findIn K (.ref D) "__getattr__" = some none) (hb : PySem.W.mroIn K D (.type "BaseException") = some true)
    (hf : PySem.W.findObj K D none "__class__" = some (.bind (.builtin "getset_descriptor.__get__") (.builtin "object.__class__"))) (hm : PySem.W.mroIn K D (.type "object") = some true)
    (X : K.In s.heap) (I : PySem.W.InstAt s.heap x ox D none) (h : Q (.ref D) s) : wpAny (model prog w) A (getAttrByItsOwn (.ref x) (.str "__class__" tk) (.ref D) (.builtin "BaseException.__getattribute__") false false) Q E s := by
  have L2 := PySem.W.looks_findIn (M := model prog w) X gh
  have f3 := PySem.F.excAttr_ValueError.ga.bind (.ref x)
  unfold getAttrByItsOwn
  refine wpAny_bind ?_
  show wpAny _ _ (typeLookup (.ref D) "__getattr__") _ _ _
  refine L2.here ?_
  refine wpAny_bind (wpAny_attempt (wpAny_holding ?_))
  show wpAny _ _ (boundAndCalled _ _ _) _ _ _
  unfold boundAndCalled
  rw [f3]
  refine wpAny_bind (wpAny_pure ?_)
  refine wpAny_call (exc_call hb hf hm X I ?_)
  refine PySem.W.handed_on rfl ?_
  exact h
theorem exc_class {Q : Option Value → Shared → Prop} (ga : PySem.W.findIn K (.ref D) "__getattribute__" = some (some (.builtin "BaseException.__getattribute__"))) (gh : PySem.W.findIn K (.ref D) "__getattr__" = some none) (hb : PySem.W.mroIn K D (.type "BaseException") = some true)
    (hf : PySem.W.findObj K D none "__class__" = some (.bind (.builtin "getset_descriptor.__get__") (.builtin "object.__class__"))) (hm : PySem.W.mroIn K D (.type "object") = some true)
    (X : K.In s.heap) (I : PySem.W.InstAt s.heap x ox D none) (h : Q (some (.ref D)) { s with toks := s.toks + 1 }) : wpAny (model prog w) A (getAttr? (.ref x) "__class__") Q E s := by
  obtain ⟨hh, g, d, t, os⟩ := s
  have L0 := I.type (M := model prog w)
  have L1 := PySem.W.looks_findIn (M := model prog w) X ga
  have hx2 : (Value.builtin "BaseException.__getattribute__" == Value.builtin "object.__getattribute__") = false := by decide +kernel
  have hx1 : (onTheHeap (Value.ref D) && Value.builtin "BaseException.__getattribute__" == Value.builtin "object.__getattribute__") = false := by rw [hx2]; rfl
  unfold getAttr? getAttrBy? getAttrBy
  refine wpAny_bind (wpAny_mkText (wpAny_bind (wpAny_attempt (wpAny_holding (wpAny_bind (L0.at (wpAny_bind (L1.at ?_))))))))
  dsimp only
  rw [hx1]
  rw [if_neg Bool.false_ne_true]
  exact exc_own (s := ⟨hh, g, d, t + 1, os⟩) gh hb hf hm X I (wpAny_pure h)
end
end L3
namespace L3
open PySem PySem.Spec PyProof.Rows L2
structure Exk (K : PySem.W.Frag) (D : Addr) : Prop where
  vx : VEx K D
  ga : PySem.W.findIn K (.ref D) "__getattribute__" = some (some (.builtin "BaseException.__getattribute__"))
  gh : PySem.W.findIn K (.ref D) "__getattr__" = some none
  fnd : PySem.W.findIn K (.ref D) "__class__" = some (some (.builtin "object.__class__"))
  spc : PySem.W.specialIn K (.builtin "object.__class__") "__get__" = some (some (.builtin "getset_descriptor.__get__"))
  tks : PySem.W.takesIn K (.builtin "object.__class__") = some true
  mro : PySem.W.mroIn K D (.type "object") = some true
  bex : PySem.W.mroIn K D (.type "BaseException") = some true
theorem mro_cls {K : PySem.W.Frag} {D : Addr} {b : Value} {r : Bool} (h : PySem.W.mroIn K D b = some r) : (PySem.W.clsIn K D).isSome = true := by
  unfold PySem.W.mroIn at h
  cases e : PySem.W.clsIn K D with
  | none => rw [e] at h; cases h
  | some _ => rfl
open PySem.W in
theorem kitx_exc {K : PySem.W.Frag} {x D : Addr} (k : Exk K D) : PySem.W.KitX K (.ref x) (.ref D) (fun h => ∃ vs, h.get? x = some { cls := .ref D, data := .fields vs }) where
  ty := fun M h _ p => by
    obtain ⟨vs, e⟩ := p
    have I : PySem.W.InstAt h x { cls := .ref D, data := .fields vs } D none := ⟨e, rfl, rfl, trivial⟩
    exact I.type
  it := fun _ _ X _ => by
    have hcD := mro_cls k.mro
    unfold PySem.W.clsIn at hcD
    split at hcD
    · rename_i c' d' cd' sl' ho
      intro A' Q' E' s' k q
      unfold isType loadHead
      exact wpAny_bind (wpAny_loadPart (k _ _ (X _ _ ho)) (wpAny_pure q))
    · cases hcD
  ne := fun h tp dd its n sl X htp => by
    have hcD := mro_cls k.mro
    refine Bool.eq_false_iff.mpr fun q => ?_
    have e : D = tp := Value.ref.inj (beq_iff_eq.mp q)
    subst e
    unfold PySem.W.clsIn at hcD
    split at hcD
    · rename_i c' d' cd' sl' ho
      have z := (X _ _ ho).symm.trans htp
      cases z
    · cases hcD
  ca := fun {prog w A E Q s} X p h => by
    obtain ⟨vs, e⟩ := p
    have I : PySem.W.InstAt s.heap x { cls := .ref D, data := .fields vs } D none := ⟨e, rfl, rfl, trivial⟩
    have hf : PySem.W.findObj K D none "__class__" = some (.bind (.builtin "getset_descriptor.__get__") (.builtin "object.__class__")) := by
      obtain ⟨cd, hc⟩ := Option.isSome_iff_exists.mp (mro_cls k.mro)
      unfold PySem.W.findObj
      rw [hc, Option.bind_some, k.fnd, Option.bind_some]
      simp [k.spc, k.tks]
    exact exc_class k.ga k.gh k.bex hf k.mro X I h
section
variable {X : Cx}
theorem call_isx {K : PySem.W.Frag} (hK : X.K = K) : CallR X (.builtin "isinstance") (fun xs H Q => ∃ ea C b, (∃ D, xs = [.ref ea, .ref D] ∧ PySem.W.kitOne K (.ref C) (.ref D) = some b ∨ ∃ n, xs = [.ref ea, .ty n] ∧ PySem.W.kitOne K (.ref C) (.type n) = some b) ∧ H ea = some (excO ea C) ∧ Exk K C ∧ Q (.bl b) H) := by
  subst hK
  intro pins s σ H xs us Q I r h
  obtain ⟨ea, C, b, hx, he, kx, q⟩ := h
  have p : ∃ vs, s.heap.get? ea = some { cls := .ref C, data := .fields vs } := (show ObjOk X.prog X.w H s.heap ea (excO ea C) from I.hok ea _ he).1
  obtain ⟨D, hx⟩ := hx
  rcases hx with ⟨rfl, e⟩ | ⟨n, rfl, e⟩
  · obtain ⟨u, u2, rfl, r1, r2⟩ := r.two
    cases r1; cases r2
    exact PySem.W.kia_one (kitx_exc kx) I.kIn p e (fun z => nomatch z) fun tk => ⟨.bl b, H, I.tok _, rfl, q⟩
  · obtain ⟨u, u2, rfl, r1, r2⟩ := r.two
    cases r1; cases r2
    exact PySem.W.kia_one (kitx_exc kx) I.kIn p e (fun z => nomatch z) fun tk => ⟨.bl b, H, I.tok _, rfl, q⟩
theorem call_isxT {K : PySem.W.Frag} (hK : X.K = K) : CallR X (.builtin "isinstance") (fun xs H Q => ∃ (ea C : Addr) (b : Bool) (tp : Addr) (ds : List Addr), xs = [.ref ea, .ref tp] ∧ H tp = some (.tup (ds.map V.ref)) ∧ PySem.W.kitAny K (.ref C) (ds.map Value.ref) = some b ∧ H ea = some (excO ea C) ∧ Exk K C ∧ Q (.bl b) H) := by
  subst hK
  intro pins s σ H xs us Q I r h
  obtain ⟨ea, C, b, tp, ds, rfl, ht, e, he, kx, q⟩ := h
  have p : ∃ vs, s.heap.get? ea = some { cls := .ref C, data := .fields vs } := (show ObjOk X.prog X.w H s.heap ea (excO ea C) from I.hok ea _ he).1
  obtain ⟨u, u2, rfl, r1, r2⟩ := r.two
  cases r1; cases r2
  obtain ⟨hz, its, rv, ⟨o, h1, h2, n, h3⟩⟩ := (show ObjOk X.prog X.w H s.heap tp (.tup (ds.map V.ref)) from I.hok tp _ ht)
  have ei : its = ds.map Value.ref := by
    clear e ht h3 hz
    induction ds generalizing its with
    | nil => cases rv; rfl
    | cons d ds ih =>
      cases rv with
      | cons a b =>
        cases a
        rw [ih _ b]; rfl
  obtain ⟨c, dd, dt, sl⟩ := o
  dsimp only at h2 h3
  subst h2 h3
  rw [ei] at h1
  exact PySem.W.kia_tup (kitx_exc kx) I.kIn p h1 e (fun z => nomatch z) fun tk => ⟨.bl b, H, I.tok _, rfl, q⟩
end
section
variable {X : Cx} {K : PySem.W.Frag}
theorem ix_tupK (hK : X.K = K) : IxR X (rIxT K) := by subst hK; exact ix_tup
end
theorem Hits.of {K : PySem.W.Frag} {C D : Addr} (vC : VEx K C) (vD : VEx K D) (m : PySem.W.mroIn K C (.ref D) = some true) : Hits K C D := by
  refine ⟨vC, vD, fun h X bm xc => ?_⟩
  obtain ⟨⟨nm, q, N, bs, hd, sn, sub, ab, col, dd, k0, k1, k2, k3, k5, ni, hC⟩, _⟩ := xc
  unfold PySem.W.mroIn PySem.W.clsIn at m
  split at m
  · rename_i c' d' cd' sl' ho
    have z := (X _ _ ho).symm.trans hC
    cases z
    dsimp only [Option.bind_some] at m
    split at m
    · cases m
    · exact Option.some.inj m
  · cases m
end L3
namespace Vm
open PySem PySem.Spec PyProof.Rows L2 L3
end Vm
namespace L3
open PySem PySem.Spec PyProof.Rows L2
section
variable {X : Cx}
end
end L3
namespace Vm
open PySem PySem.Spec PyProof.Rows L2 L3 PySem.NumText
end Vm
namespace HT
open PySem PySem.Spec PyProof.Rows
section
variable {prog : Program} {w : World} {A : Around} {E : Value → Shared → Prop} {s : Shared}
theorem cut_whole {t sl : Addr} {items : Array Value} {vl vu : Value} {lo hi : Option Int} {Q : Value → Shared → Prop} (ht : IsTup s.heap t items) (hs : s.heap.IsSliceOf sl vl vu .none) (pl : IsPart vl lo) (pu : IsPart vu hi)
    (hw : sIx items.size 0 lo = 0 ∧ sIx items.size items.size hi = items.size) (h : Q (.ref t) s) : wpAny (model prog w) A (getItem (.ref t) (.ref sl)) Q E s := by
  obtain ⟨os, hos, hcs, hds⟩ := id hs
  have hTs : s.TypeIs (.ref sl) "slice" := ⟨os, hos, hcs⟩
  unfold getItem
  try with_reducible refine wpAny_holding ?_
  first | refine wpAny_bind (wpAny_pure ?_) | skip
  refine wpAny_bind (wpAny_sequenceKey ht.typeIs (by decide) ?_)
  refine wpAny_bind (wpAny_callSpecial?_slot (name := Str.ofString "__getitem__") ht.typeIs PyProof.Rows.slot_tuple_getitem
    (wpAny_call_entry PyProof.Rows.slot_tuple_getitem ht.typeIs entry_tuple_getitem ?_ (args_tuple_getitem _ _)))
  show wpAny _ _ (Builtin.Tuple.tupleItemsOf (.ref t) >>= _) _ _ s
  refine wpAny_bind (tupleItemsOf_ ht ?_)
  refine wpAny_bind (wpAny_typeOf hTs ?_)
  rw [if_pos (by decide)]
  refine wpAny_bind (sliceApplied_gen hs pl pu ?_)
  have hyes : (((sIx items.size 0 lo : Nat) : Int) == 0 && (1 : Int) == 1 && (sIx items.size items.size hi - sIx items.size 0 lo) == items.size) = true := by
    rw [hw.1, hw.2]; simp
  show wpAny _ _ (if (((sIx items.size 0 lo : Nat) : Int) == 0 && (1 : Int) == 1 && (sIx items.size items.size hi - sIx items.size 0 lo) == items.size) = true then _ else _) _ _ s
  rw [if_pos hyes]
  unfold Builtin.Tuple.tupleIsExact
  refine wpAny_bind (wpAny_bind (wpAny_typeOf ht.typeIs (wpAny_pure ?_)))
  rw [if_pos (by decide)]
  first
    | exact wpAny_bind (wpAny_rule (wpAny_pure ⟨_, rfl, wpAny_pure h⟩))
    | exact wpAny_bind (wpAny_rule (wpAny_bind (wpAny_pure (wpAny_pure ⟨_, rfl, wpAny_pure h⟩))))
    | exact wpAny_bind (wpAny_bind (wpAny_rule (wpAny_pure (wpAny_pure ⟨_, rfl, wpAny_pure h⟩))))
end
end HT
namespace L3
open PySem PySem.Spec PyProof.Rows L2
section
variable {X : Cx}
def rSlTA (K : PySem.W.Frag) : V → Option Int → Option Int → Hp → VK → Prop := fun x lo hi H Q => ∃ (a : Addr) (xs : List V), x = .ref a ∧ SqT K H a xs ∧
  ((HT.sIx xs.length 0 lo = 0 ∧ HT.sIx xs.length xs.length hi = xs.length) → Q (.ref a) H) ∧ (¬ (HT.sIx xs.length 0 lo = 0 ∧ HT.sIx xs.length xs.length hi = xs.length) → ∀ p, H p = none → Q (.ref p) (upd H p (.tup (cutV xs lo hi))))
theorem sl_tupA : SlR X (rSlTA X.K) := by
  intro pins s σ H x v vl vu lo hi sl Q I rx hs pl pu h
  obtain ⟨a, xs, rfl, hx, q1, q2⟩ := h
  by_cases hw : HT.sIx xs.length 0 lo = 0 ∧ HT.sIx xs.length xs.length hi = xs.length
  · cases rx
    obtain ⟨its, r, ht, hz⟩ := I.tuple hx
    have hlen : its.toArray.size = xs.length := by rw [List.size_toArray]; exact r.length.symm
    refine ⟨"tuple", _, PyProof.Rows.slot_tuple_getitem.lookup, ht.typeIs, ?_⟩
    exact HT.cut_whole ht hs pl pu (by rw [hlen]; exact hw) ⟨.ref a, H, I, rfl, q1 hw⟩
  · exact sl_tup pins s σ H _ v vl vu lo hi sl Q I rx hs pl pu ⟨a, xs, rfl, hx, hw, q2 hw⟩
end
end L3
namespace Vm
open PySem PySem.Spec PyProof.Rows L2 L3
theorem iteK {c A B : Prop} [Decidable c] (h : ¬ c) (hb : B) : if decide c = true then A else B := by rw [decide_eq_false h]; exact hb
theorem iteY {c A B : Prop} [Decidable c] (h : c) (ha : A) : if decide c = true then A else B := by rw [decide_eq_true h]; exact ha
end Vm
namespace L3
open PySem PySem.Spec PyProof.Rows L2
structure NB (X : Cx) (pins : List (Addr × Obj)) (H : Hp) (b : Addr) : Prop where
  s0 : X.s₀.heap.get? b = none
  loc : b ≠ X.env.locals
  cel : ∀ x c, X.env.cells.lookup x = some c → c ≠ b
  pin : ∀ p ∈ X.pn ++ pins, p.1 ≠ b
  hp : H b = none
section
variable {X : Cx} {pins : List (Addr × Obj)} {σ : L2.St} {H H' : Hp} {s : Shared} {b : Addr}
theorem nb_of (I : Inv X pins σ H s) (hex : X.ex = []) (hb : s.heap.get? b = none) : NB X pins H b := by
  refine ⟨old_none I hex hb, fun z => ?_, fun y c' ec z => ?_, fun q hq z => ?_, hok_none I.hok hb⟩
  · obtain ⟨m, ⟨o, _, _, ho, _⟩, _⟩ := I.loc
    rw [← z, hb] at ho; cases ho
  · obtain ⟨v, o, ho, _⟩ := I.cell y c' ec
    rw [z, hb] at ho; cases ho
  · have := (I.pin q hq).1
    rw [z, hb] at this; cases this
theorem NB.to (n : NB X pins H b) (h : H' b = none) : NB X pins H' b := ⟨n.s0, n.loc, n.cel, n.pin, h⟩
theorem inv_nb {h' : Heap} {t' : Nat} {S : List Addr} (I : Inv X pins σ H s) (k : Kpt S (frs X.stack) s.heap h') (n : ∀ b ∈ S, NB X pins H b) : Inv X pins σ H { s with heap := h', toks := t' } :=
  inv_kpt I k (fun b hb => (n b hb).s0) (fun b hb => (n b hb).loc) (fun b hb => (n b hb).cel) (fun b hb => (n b hb).pin) fun b hb => (n b hb).hp
end
def FlyN (X : Cx) (E : XK) (e : Value) (s : Shared) : Prop := ∃ (pins : List (Addr × Obj)) (σ : L2.St) (H : Hp) (ea T C : Addr), e = .ref ea ∧ Inv X pins σ H s ∧ NB X pins H ea ∧ NB X pins H T ∧ E (.ref C) none H ∧ Exc s.heap ea T C (rawInt X.env.locals)
def Fly (X : Cx) (E : XK) (e : Value) (s : Shared) : Prop := ∃ (pins : List (Addr × Obj)) (σ : L2.St) (H : Hp) (ea C : Addr), e = .ref ea ∧ Inv X pins σ H s ∧ NB X pins H ea ∧ E (.ref C) none H ∧
  ((∃ vs, s.heap.get? ea = some { cls := .ref C, data := .fields vs } ∧ vs[1]? = some .none) ∨ ∃ (T : Addr) (fl : Value), Exc s.heap ea T C fl ∧ NB X pins H T ∧ (fl = .none ∨ fl = rawInt X.env.locals))
section
variable {X : Cx} {E : XK} {e : Value} {s : Shared}
theorem note_same {M : Model} {A : Around} {E' : Value → Shared → Prop} {env : Env} {L ea T C : Addr} {Q : Unit → Shared → Prop} (hf : env.frame = some L) (x : Exc s.heap ea T C (rawInt L)) (h : Q () s) : wpAny M A (noteFrame (.ref ea) env) Q E' s := by
  obtain ⟨⟨vs, he, h1⟩, ⟨oT, ts, hT, dT, h3⟩, ne⟩ := x
  unfold noteFrame
  simp only [hf]
  refine wpAny_bind (wpAny_field he rfl h1 ?_)
  rw [if_pos (show (Value.ref T != Value.none) = true by simp)]
  refine wpAny_bind (wpAny_field hT dT h3 ?_)
  rw [if_pos (beq_self_eq_true _)]
  exact wpAny_pure h
theorem fly_note {M : Model} {E' : Value → Shared → Prop} {Q : Unit → Shared → Prop} (hst : X.stack = X.env :: X.outer ∧ X.env.frame = some X.env.locals) (hex : X.ex = []) (F : Fly X E e s) (hQ : ∀ s', FlyN X E e s' → Q () s') : wpAny M X.A (noteFrame e X.env) Q E' s := by
  obtain ⟨pins, σ, H, ea, C, rfl, I, n1, hE, hx⟩ := F
  have fr := I.ok.frames
  have stk := I.stack
  rw [hst.1] at fr stk
  rcases hx with ⟨vs, ho, h1⟩ | ⟨T0, fl, x, n2, hfl⟩
  · refine note_new (base := X.base) (outer := X.outer) fr stk hst.2 ho h1 fun k1 T hT x1 kp1 => hQ _ ?_
    have nT := nb_of I hex (size_none hT)
    have kp : Kpt [ea] (frs X.stack) s.heap k1 := by rw [hst.1]; exact kp1
    exact ⟨pins, σ, H, ea, T, C, rfl, inv_nb (t' := s.toks) I kp (fun b hb => by rw [List.mem_singleton.mp hb]; exact n1), n1, nT, hE, x1⟩
  · rcases hfl with rfl | rfl
    · refine note_on (base := X.base) (outer := X.outer) fr stk hst.2 x fun k1 T hT x1 kp1 => hQ _ ?_
      have nT := nb_of I hex (size_none hT)
      have kp : Kpt [ea, T0] (frs X.stack) s.heap k1 := by rw [hst.1]; exact kp1
      exact ⟨pins, σ, H, ea, T, C, rfl, inv_nb (t' := s.toks) I kp (fun b hb => by
        rcases List.mem_cons.mp hb with z | z
        · rw [z]; exact n1
        · rw [List.mem_singleton.mp z]; exact n2), n1, nT, hE, x1⟩
    · exact note_same hst.2 x (hQ s ⟨pins, σ, H, ea, T0, C, rfl, I, n1, n2, hE, x⟩)
theorem fly_set {M : Model} {A : Around} {E' : Value → Shared → Prop} {to : Option Addr} {Q : Unit → Shared → Prop} (F : FlyN X E e s)
    (hQ : ∀ s' pins σ H ea T C, e = .ref ea → Inv X pins σ H s' → NB X pins H ea → NB X pins H T → E (.ref C) none H → Exc s'.heap ea T C (to.elim Value.none fun f => rawInt f) → Q () s') : wpAny M A (setFlight e to) Q E' s := by
  obtain ⟨pins, σ, H, ea, T, C, rfl, I, n1, n2, hE, x⟩ := F
  refine flight_set (to := to) x fun k2 x2 oth _ => hQ _ pins σ H ea T C rfl ?_ n1 n2 hE x2
  refine inv_nb (t' := s.toks) (S := [T]) I ⟨fun b o eb nb _ => (oth b fun z => nb (by rw [z]; simp)).trans eb, fun b o eb nb _ => ⟨o.slots, (oth b fun z => nb (by rw [z]; simp)).trans eb⟩⟩ fun b hb => by
    rw [List.mem_singleton.mp hb]; exact n2
theorem passes_fly (hst : X.stack = X.env :: X.outer ∧ X.env.frame = some X.env.locals) (hex : X.ex = []) : PassesOwn (model X.prog X.w) X.A X.env (Fly X E) := fun e s' F => by
  show wpAny _ X.A (noteFrame e X.env) _ _ s'
  refine fly_note hst hex F fun s'' N => ?_
  have N' := N
  obtain ⟨pins, σ, H, ea, T, C, rfl, I, n1, n2, hE, ⟨vs, he, h1⟩, _⟩ := N'
  unfold cameBackBy
  refine wpAny_bind (wpAny_field he rfl h1 ?_)
  rw [if_neg (show ¬ (Value.ref T == Value.none) = true by simp)]
  first
    | refine fly_set (to := X.env.frame) N fun s3 pins σ H ea T C e1 I3 m1 m2 hE3 x3 => ?_
    | refine wpAny_bind (wpAny_pure (fly_set (to := X.env.frame) N fun s3 pins σ H ea T C e1 I3 m1 m2 hE3 x3 => ?_))
  rw [hst.2] at x3
  exact ⟨pins, σ, H, ea, C, e1, I3, m1, hE3, .inr ⟨T, _, x3, m2, .inr rfl⟩⟩
theorem lands_fly (hex : X.ex = []) : Lands (X.wish (Fly X E)) E := by
  intro pins σ H s h' ea C vs I kp new ho h1 hE
  have I0 := I.unwish
  exact ⟨pins, σ, H, ea, C, rfl, I0.kept (t' := s.toks) kp, nb_of I0 hex new, hE, .inl ⟨vs, ho, h1⟩⟩
end
section
variable {P : Program} {w : World} {K : PySem.W.Frag} {mg : Str → Option Value} {base : Heap} {N : List Str} {qual : Str} {scope : Scope} {f : Addr} {cd : Value} {A : Around} {outer : List Env} {s0 : Shared} {H0 : Hp} {E : XK}
abbrev cxF (P : Program) (w : World) (K : PySem.W.Frag) (mg : Str → Option Value) (base : Heap) (N : List Str) (qual : Str) (scope : Scope) (f : Addr) (cd : Value) (A : Around) (outer : List Env) (s0 : Shared) (H0 : Hp) (E : XK) : Cx :=
  (cxOf (CXv P w) P w K mg base N qual scope f cd A outer s0 H0 E).wish (Fly (cxOf (CXv P w) P w K mg base N qual scope f cd A outer s0 H0 E) E)
theorem passesF : Passes (CXv P w) (cxF P w K mg base N qual scope f cd A outer s0 H0 E) E := by
  intro pins σ H s e s' I hx
  obtain ⟨ea, T0, C, H', rfl, x, n1, n2, t1, t2, os, bare, un, hok, hE⟩ := hx
  have I0 := I.unwish
  have I' : Inv (cxOf (CXv P w) P w K mg base N qual scope f cd A outer s0 H0 E) pins σ H' s' := I0.call' os un hok bare fun b z => absurd z (by simp)
  exact ⟨pins, σ, H', ea, C, rfl, I', (nb_of I0 rfl n1).to t1, hE, .inr ⟨T0, .none, x, (nb_of I0 rfl n2).to t2, .inl rfl⟩⟩
theorem fly_leave {e : Value} {s : Shared} (F : Fly (cxOf (CXv P w) P w K mg base N qual scope f cd A outer s0 H0 E) E e s) : (cxOf (CXv P w) P w K mg base N qual scope f cd A outer s0 H0 E).xe e s := by
  show wpAny (model P w) (A.deeper (envOfC qual scope s0.heap.objs.size f cd)) (leaving (envOfC qual scope s0.heap.objs.size f cd) e) _ _ s
  unfold leaving
  refine wpAny_bind (fly_note ⟨rfl, rfl⟩ rfl F fun s'' Nn => ?_)
  refine fly_set (to := none) Nn fun s3 pins σ H ea T C e1 I3 m1 m2 hE3 x3 => ?_
  exact ⟨ea, T, C, H, e1, x3, m1.s0, m2.s0, m1.hp, m2.hp, I3.os, I3.bare, I3.base, I3.hok, hE3⟩
theorem PSs.fly {sts : List Stmt} {t : TS} (h : PSs (cxF P w K mg base N qual scope f cd A outer s0 H0 E) sts t) : PSs (cxOf (CXv P w) P w K mg base N qual scope f cd A outer s0 H0 E) sts t := fun pins s σ H D I hw =>
  wpAny_mono (h pins s σ H D (I.wish _) hw) (fun _ _ q => q.unwish) fun _ _ z => fly_leave z
theorem passF : PassesOwn (model P w) (cxF P w K mg base N qual scope f cd A outer s0 H0 E).A (cxF P w K mg base N qual scope f cd A outer s0 H0 E).env (cxF P w K mg base N qual scope f cd A outer s0 H0 E).xe := passes_fly (X := cxOf (CXv P w) P w K mg base N qual scope f cd A outer s0 H0 E) ⟨rfl, rfl⟩ rfl
theorem landsF : Lands (cxF P w K mg base N qual scope f cd A outer s0 H0 E) E := lands_fly rfl
end
end L3
namespace L3
open PySem PySem.Spec PyProof.Rows L2
section
variable {X : Cx} {k : Nat} {f : Addr} {fd : FuncData} {ps : List Str} {sp : Sp} {fx x c : Str} {e : Expr} {es : List Expr} {ta : TA} {p pos : Pos}
end
end L3
namespace Vm
open PySem PySem.Spec PyProof.Rows L2 L3
theorem sameT {K : PySem.W.Frag} {H H' : Hp} {a : Addr} {xs : List V} (S : Same H H') (h : SqT K H a xs) : SqT K H' a xs := by
  rcases h with (h | ⟨o, h⟩) | h
  · exact .inl (.inl (S _ _ h))
  · exact .inl (.inr ⟨o, S _ _ h⟩)
  · exact .inr h
end Vm
namespace L3
open PySem PySem.Spec PyProof.Rows L2
section
variable {prog : Program} {w : World}
section
variable {A : Around} {E : Value → Shared → Prop} {s : Shared} {z TI TO i1 i2 t1 t2 : Addr} {xs ys : Array Value} {S1 S2 : Nat → Heap → Prop} {k : Nat}
end
end
end L3
namespace L3
open PySem PySem.Spec PyProof.Rows L2
section
variable {X : Cx} {pins : List (Addr × Obj)} {σ : L2.St} {H : Hp} {s : Shared} {h' : Heap}
theorem turnedL {t' : Nat} {L : List Addr} (I : Inv X pins σ H s) (k : ∀ b o, b ∉ L → s.heap.get? b = some o → h'.get? b = some o) (hf : ∀ b ∈ L, FpOk X pins H b) : Inv X pins σ H { s with heap := h', toks := t' } := by
  have nit : ∀ b u, H b = some u → b ∉ L := fun b u e z => by rw [(hf b z).1] at e; cases e
  have nl : X.env.locals ∉ L := fun z => (hf _ z).2.1 rfl
  refine I.step (g' := s.gens) (d' := s.drawn) (ch := L) (fun b hb => ?_) (fun b o _ _ hc e _ => k b o hc e) (fun b o _ _ hc e _ => ⟨o.slots, k b o hc e⟩) (fun _ _ _ _ n => n)
    (fun b o hc e => ⟨o, k b o hc e⟩) (fun _ _ e => e) (fun _ _ _ e => e) (fun b ps e => ⟨#[], by rw [e]; simp⟩) (fun m hm => ?_) (fun b u e => ?_) I.bare
  · obtain ⟨f0, f1, f2, f3, f4, f5⟩ := hf b hb
    exact ⟨f3, f1, f4, f5⟩
  · obtain ⟨o, es, ep, ho, r⟩ := hm
    exact ⟨o, es, ep, k _ o nl ho, r⟩
  · refine (I.hok b u e).stay (fun c v hc q => k c v ?_ q) (fun _ q => q) fun _ _ q => q
    rcases hc with z | z
    · rw [z]; exact nit b u e
    · exact nit c _ z
end
section
variable {prog : Program} {w : World} {A : Around} {E : Value → Shared → Prop} {s : Shared} {z TI TO i1 i2 t1 t2 : Addr} {xs ys : Array Value} {k : Nat}
end
section
variable {X : Cx} {es : List Expr} {x1 : Nat} {tpos : Pos}
end
end L3
namespace L3
open PySem PySem.Spec PyProof.Rows L2
section
variable {X : Cx}
end
end L3
namespace Vm
open PySem PySem.Spec PyProof.Rows L2 L3
section
open PySem.StrLaws Builtin Builtin.Str
end
theorem comp_grow {α : Type} {J : It} {H : Hp} {as : List α} {v : α → V} {te : TE} {Q : VK} {rest : L2.St} (I : Nat → List V → Hp → Prop) (hs : ∀ i acc H', i ≤ as.length → I i acc H' → Src J H' (as.map v)) (hz : as.length ≤ sizeLine) (h0 : I 0 [] H)
    (hl : ∀ i acc H', I i acc H' → acc.length = i) (he : ∀ i a acc H', as[i]? = some a → I i acc H' → ∀ k : VK, (∀ x H2, I (i + 1) (acc ++ [x]) H2 → k x H2) → te (some (v a) :: rest) H' k)
    (hq : ∀ acc H', I as.length acc H' → ∀ D, H' D = none → Q (.ref D) (upd H' D (.lst acc))) : wComp J (gName 0) tYes te Q (none :: rest) H := by
  refine ⟨fun i m σ acc H' => I i acc H' ∧ i ≤ as.length ∧ m = as.length - i ∧ ∃ o, σ = o :: rest, ⟨as.length, h0, Nat.zero_le _, rfl, none, rfl⟩, ?_⟩
  rintro i m σ acc H' ⟨hI, hi, rfl, o, rfl⟩
  have hacc := hl i acc H' hI
  have S := hs i acc H' hi hI
  by_cases hlt : i < as.length
  · refine .inr ⟨S.go i (by rw [List.length_map]; exact hlt), fun x H1 y => ?_⟩
    obtain ⟨rfl, hx⟩ := S.yld i x H1 (by rw [List.length_map]; exact hlt) y
    rw [List.getElem?_map, List.getElem?_eq_getElem hlt] at hx
    have hx' : v as[i] = x := Option.some.inj hx
    subst hx'
    show te (some (v as[i]) :: rest) H1 _
    exact he i as[i] acc H1 (List.getElem?_eq_getElem hlt) hI _ fun x H2 h2 => ⟨by omega, as.length - (i + 1), by omega, h2, hlt, rfl, _, rfl⟩
  · have ei : i = as.length := by omega
    subst ei
    exact .inl ⟨S.stop _ (by rw [List.length_map]; exact Nat.le_refl _), by omega, hq acc H' hI⟩
end Vm
namespace L3
open PySem PySem.Spec PyProof.Rows L2
section
variable {X : Cx} {tg : Expr}
end
end L3
namespace L3
open PySem PySem.Spec PyProof.Rows L2
section
variable {X : Cx}
theorem op_mulB : OpR X (binaryOp .Mult) (rI (fun i j => IntMulOk i j) fun i j => .int (i * j)) := opI fun _ _ _ _ _ _ _ hc q => mul_int q hc
end
end L3
namespace HT
open PySem PySem.Spec PyProof.Rows
section
variable {prog : Program} {w : World} {A : Around} {E : Value → Shared → Prop} {s : Shared}
end
end HT
namespace L3
open PySem PySem.Spec PyProof.Rows L2
section
variable {X : Cx} {e es : Expr} {te ts : TE} {pos p2 : Pos}
theorem Vals.rev {xs : List V} {us : List Value} (r : Vals xs us) : Vals xs.reverse us.reverse := by
  induction r with
  | nil => exact .nil
  | cons r1 r2 ih =>
    rw [List.reverse_cons, List.reverse_cons]
    exact ih.append (.cons r1 .nil)
end
end L3
namespace L3
open PySem PySem.W PySem.Calls PySem.Spec PyProof.Rows L2
theorem bits_lay {ns : List Int} (h : WData.layableAll [WData.list (ns.map WData.int)] = true) : ∀ m ∈ ns, Builtin.Int.intBits m ≤ 1048576 := fun m hm => by
  have h1 : (WData.list (ns.map WData.int)).layable = true := layableW_arg h _ List.mem_cons_self
  have h2 : (WData.int m).layable = true := layableW_item h1 _ (List.mem_map.mpr ⟨m, hm, rfl⟩)
  exact PyData.bits_of_layable (layable0_of_all (lay0_int h2))
theorem walk_ofB {l : PySem.W.OpenLaw} {n k : Nat} {q : Program} {loose : List Str} {XP : (Str → Option Value) → Heap → Prop} {YP : World → Heap → Prop} {d : DefRec} {K : Params → PySem.W.Frag} {CX : World → CXT} {sp : World → Sp} {x : Str}
    (hn : l.most = some n) (hn2 : n ≤ sizeLine) (hdf : d.params.defaults = []) (hr : Room k callerA) (hY : ∀ (w : World) (h : Heap), YP w h → (K w.params).In h)
    (F : ∀ (w : World) (mg : Str → Option Value) (fa : Addr) (h : Heap), (K w.params).In h → h.Ns mainGlobals mg → mg d.name = some (.ref fa) →
      ∃ fd : FuncData, (∀ (s : Shared) (u : Value), BindsTo s fd ⟨[u], []⟩ [(x, u)]) ∧ ∀ base : Heap, (K w.params).In base → base.Ns mainGlobals mg → FnOk l.prog w (K w.params) mg base (CX w) k fa fd [x] (sp w))
    (hsp : ∀ (w : World) (H : Hp) (a : Addr) (ns : List Int), ns.length ≤ n → (∀ m ∈ ns, Builtin.Int.intBits m ≤ 1048576) → Only H → SqL (K w.params) H a (ns.map V.int) → sp w [.ref a] H (fun v _ => v = .bl true) fun _ _ _ => False)
    (hCX : ∀ (w : World) (H : Hp) (s : Shared) (e : Value) (s' : Shared), CX w [] H s (fun _ _ _ => False) e s' → False) :
    PySem.W.WalkO q loose XP YP l.row.toRowW d [] (fun f vs => PySem.call f vs) := by
  intro w s₀ s₁ mg mb G Y fa o pm cd doc dV kV ho hd hcd hD hmg hg args vals as hpre hlay hrd hwl hlo
  obtain rfl : dV = .none := Dflts.none hD hdf
  obtain rfl : kV = .none := Dflts.noKw hD
  obtain ⟨a, vs, ns, rfl, rfl, hobj, hints, hlen⟩ := Att.script_of hn hpre hwl
  have KX := hY w _ Y
  obtain ⟨fd, hb, hF⟩ := F w mg fa _ KX G.T.g hmg
  refine enter_call (codeAny_mono (law_call KX G.T.g G.T.b G.T.builtins G.T.nolimit hg hobj hints (Nat.le_trans hlen hn2) hr hF hb (fun H hO hS => hsp w H a ns hlen (bits_lay hlay) hO hS) fun H e s' => hCX w H s₁ e s') fun r s' hq => ?_)
  obtain ⟨rfl, h2, h3, h4⟩ := hq
  exact ⟨.inl ⟨.bool true, .bool true, [], rfl, fun _ => rfl, .bool true, Att.post_true l _, fun _ => ⟨List.Pairwise.nil, fun _ hm => (nomatch hm)⟩⟩, h2, h3, h4⟩
end L3
namespace Vm
open PySem PySem.Spec PyProof.Rows L2 L3
theorem cutTup {K : PySem.W.Frag} {H : Hp} {a : Addr} {xs : List V} {lo hi : Option Int} {Q : VK} (h : SqT K H a xs) (q : ∀ p H', Same H H' → SqT K H' p (cutV xs lo hi) → Q (.ref p) H') : rSlTA K (.ref a) lo hi H Q := by
  refine ⟨a, xs, rfl, h, fun hw => q a H (Same.refl _) ?_, fun _ p hp => q p _ (same_upd hp) (SqT.of upd_same)⟩
  have e : cutV xs lo hi = xs := by
    unfold cutV
    rw [hw.1, hw.2, List.drop_zero, Nat.sub_zero, List.take_length]
  rw [e]; exact h
theorem cutTake {α : Type} (g : α → V) (xs : List α) (n : Nat) : cutV (xs.map g) none (some ((n : Nat) : Int)) = (xs.take n).map g := by
  unfold cutV
  rw [HT.sIx_none, HT.sIx_nat, List.drop_zero, Nat.sub_zero, List.length_map, ← List.map_take]
  congr 1
  by_cases h : n ≤ xs.length
  · rw [Nat.min_eq_left h]
  · rw [Nat.min_eq_right (by omega), List.take_length, List.take_of_length_le (by omega)]
end Vm
namespace Vm
open PySem PySem.Spec PyProof.Rows L2 L3
end Vm
namespace L3
open PySem PySem.Spec PyProof.Rows L2
theorem rep_fold (u : Value) : ∀ (k : Nat) (acc : Array Value), List.foldl (fun x1 x2 => x1 ++ x2) acc (List.replicate k #[u]) = acc ++ (List.replicate k u).toArray
  | 0, acc => by simp
  | k + 1, acc => by
    rw [List.replicate_succ, List.foldl_cons, rep_fold u k, List.replicate_succ]
    apply Array.ext'
    simp
section
variable {pg : Program} {wo : World} {Ar : Around} {Ex : Value → Shared → Prop} {st : Shared}
theorem mulL_new {a : Addr} {its : Array Value} {c : Nat} {n : Int} {tk : Tok} {R : Value → Shared → Prop} (ha : st.heap.get? a = some { cls := .type "list", data := .seq its c })
    (h1 : 0 ≤ n) (h2 : n < 2 ^ 40) (h3 : its.size * n.toNat ≤ 2 ^ 24)
    (hR : R (.ref st.heap.objs.size) { st with heap := st.heap.push { cls := .type "list", data := .seq (List.foldl (· ++ ·) #[] (List.replicate (if its.isEmpty = true then 0 else n.toNat) its)) } }) :
    wpAny (model pg wo) Ar (binaryOp .Mult (.ref a) (.int n tk)) R Ex st := by
  have fits : ¬ (!Builtin.List.listFitsIndex n) = true := by
    unfold Builtin.List.listFitsIndex
    simp
    omega
  have short : ¬ Builtin.List.listTooLong (its.size * n.toNat) = true := by
    unfold Builtin.List.listTooLong sizeLine
    simp
    omega
  have isL : st.TypeIs (.ref a) "list" := ⟨_, ha, rfl⟩
  refine wpAny_binaryOp_repeat_ref (by decide : (Value.type "list" == Value.type "int") = false) isL (fun s' => typeIs_int s' n tk) noFill_list_mul F.fills_int_mul F.slot_int_rmul repeat_list F.slot_int_index.lookup ?_
  refine call_meets F.slot_int_rmul (typeIs_int st n tk) F.entry_int_rmul (F.args_int_rmul_2 _ _) (int___rmul___int_list n tk a its c) ?_
  refine ⟨ha, rfl, isL, ?_⟩
  exact call_meets F.slot_list_mul isL F.entry_list_mul (F.args_list_mul_2 _ _) (AutoListH.list___mul___list_int_3 a its c n tk fits (by omega) short) ⟨ha, hR⟩
end
section
variable {X : Cx}
theorem vals_rep {v : V} {u : Value} (r : RelV v u) : ∀ k : Nat, Vals (List.replicate k v) (List.replicate k u)
  | 0 => .nil
  | k + 1 => .cons r (vals_rep r k)
theorem op_mulL : OpR X (binaryOp .Mult) (fun x y H Q => ∃ (a : Addr) (v : V) (n : Nat), x = .ref a ∧ y = .int ((n : Nat) : Int) ∧ H a = some (.lst [v]) ∧ n ≤ 100000 ∧ ∀ p, H p = none → Q (.ref p) (upd H p (.lst (List.replicate n v)))) := by
  intro pins s σ H x y w u Q I rx ry h
  obtain ⟨a, v, n, rfl, rfl, hH, hn, q⟩ := h
  obtain rfl : w = Value.ref a := rx
  obtain ⟨t, rfl⟩ := ry
  obtain ⟨its, k, r, e, z⟩ := I.lst hH
  obtain ⟨u, rfl, ru⟩ := vals1 r
  have hf : H s.heap.objs.size = none := I.hok.fresh (Nat.le_refl _)
  have hx : ((n : Nat) : Int).toNat = n := Int.toNat_natCast n
  have hE : (if (#[u] : Array Value).isEmpty = true then 0 else ((n : Nat) : Int).toNat) = n := by rw [if_neg (by simp), hx]
  refine mulL_new (its := #[u]) e (by omega) (by omega) (by rw [hx]; show 1 * n ≤ 2 ^ 24; omega) ?_
  rw [hE, rep_fold]
  refine ⟨.ref s.heap.objs.size, upd H s.heap.objs.size (.lst (List.replicate n v)), I.laid (t' := s.toks) (fun b u e => Heap.get?_push_of_some _ e) (Nat.le_refl _) ?_, rfl, q _ hf⟩
  refine ⟨by rw [List.length_replicate]; show n ≤ sizeLine; unfold sizeLine; omega, List.replicate n u, 0, vals_rep ru n, ?_⟩
  have : (#[] ++ (List.replicate n u).toArray : Array Value) = (List.replicate n u).toArray := by simp
  rw [this]
  exact Heap.get?_push_size _ rfl
end
end L3
namespace Vm
open PySem PySem.Spec PyProof.Rows L2 L3
theorem ixN_nat {n j : Nat} (h : j < n) : ixN n ((j : Nat) : Int) = some j := by
  unfold ixN
  have h1 : ¬ ((j : Int) < 0) := by omega
  simp [h1, h]
end Vm
namespace L2
open PySem PySem.Spec PyProof.Rows
section
variable {κ : Type} [DecidableEq κ]
def valV (kvs : List (κ × V)) (k : κ) : Option V := (kvs.find? fun kv => decide (kv.1 = k)).map (·.2)
def putK (kvs : List (κ × V)) (k : κ) (v : V) : List (κ × V) :=
  if (kvs.any fun kv => decide (kv.1 = k)) = true then kvs.map (fun kv => if kv.1 = k then (kv.1, v) else kv) else kvs ++ [(k, v)]
theorem valV_pos {p : κ × V} {r : List (κ × V)} {k : κ} (e : p.1 = k) : valV (p :: r) k = some p.2 := by simp [valV, List.find?_cons, e]
theorem valV_neg {p : κ × V} {r : List (κ × V)} {k : κ} (e : ¬ p.1 = k) : valV (p :: r) k = valV r k := by simp [valV, List.find?_cons, e]
theorem valV_any (k : κ) : ∀ kvs : List (κ × V), (kvs.any fun kv => decide (kv.1 = k)) = (valV kvs k).isSome
  | [] => rfl
  | p :: r => by
    rw [List.any_cons]
    by_cases e : p.1 = k
    · simp only [valV_pos e, decide_eq_true e, Bool.true_or, Option.isSome_some]
    · rw [valV_neg e, decide_eq_false e, Bool.false_or]; exact valV_any k r
theorem length_putK (kvs : List (κ × V)) (k : κ) (v : V) : (putK kvs k v).length ≤ kvs.length + 1 := by
  unfold putK
  split
  · rw [List.length_map]; omega
  · rw [List.length_append, List.length_cons, List.length_nil]; omega
theorem putK_new {kvs : List (κ × V)} {k : κ} (v : V) (h : valV kvs k = none) : putK kvs k v = kvs ++ [(k, v)] := by
  unfold putK
  rw [valV_any, h]
  exact if_neg (by decide)
theorem RelO.getD {o : Option V} {u : Option Value} {d : V} {d' : Value} (r : RelO o u) (rd : RelV d d') : RelV (o.getD d) (u.getD d') := by
  cases o with
  | none => cases u with
    | none => exact rd
    | some _ => exact (show False from r).elim
  | some _ => cases u with
    | none => exact (show False from r).elim
    | some _ => exact r
theorem KV.val {kvs : List (κ × V)} {vs : List (κ × Value)} (r : KV kvs vs) (k : κ) : RelO (valV kvs k) (valueAt vs k) := by
  unfold KV at r
  induction r with
  | nil => exact True.intro
  | @cons p q ps qs h t ih =>
    obtain ⟨h1, h2⟩ := h
    by_cases e : p.1 = k
    · have e' : q.1 = k := h1.symm.trans e
      have b : valueAt (q :: qs) k = some q.2 := by simp [valueAt, List.find?_cons, e']
      rw [valV_pos e, b]; exact h2
    · have e' : ¬ q.1 = k := fun z => e (h1.trans z)
      have b : valueAt (q :: qs) k = valueAt qs k := by simp [valueAt, List.find?_cons, e']
      rw [valV_neg e, b]; exact ih
theorem KV.any {kvs : List (κ × V)} {vs : List (κ × Value)} (r : KV kvs vs) (k : κ) : (kvs.any fun kv => decide (kv.1 = k)) = vs.any fun kv => decide (kv.1 = k) := by
  unfold KV at r
  induction r with
  | nil => rfl
  | cons h t ih => rw [List.any_cons, List.any_cons, ih, h.1]
theorem KV.repl {kvs : List (κ × V)} {vs : List (κ × Value)} (r : KV kvs vs) (k : κ) {y : V} {u : Value} (ry : RelV y u) :
    KV (kvs.map fun kv => if kv.1 = k then (kv.1, y) else kv) (vs.map fun kv => if kv.1 = k then (kv.1, u) else kv) := by
  unfold KV at r ⊢
  induction r with
  | nil => exact .nil
  | @cons p q ps qs h t ih =>
    rw [List.map_cons, List.map_cons]
    refine .cons ?_ ih
    obtain ⟨h1, h2⟩ := h
    by_cases e : p.1 = k
    · rw [if_pos e, if_pos (h1.symm.trans e)]; exact ⟨h1, ry⟩
    · rw [if_neg e, if_neg (fun z => e (h1.trans z))]; exact ⟨h1, h2⟩
theorem KV.put {kvs : List (κ × V)} {vs : List (κ × Value)} (r : KV kvs vs) (k : κ) {y : V} {u : Value} (ry : RelV y u) : KV (putK kvs k y) (stored vs k u) := by
  unfold putK stored
  rw [r.any k]
  by_cases e : (vs.any fun kv => decide (kv.1 = k)) = true
  · rw [if_pos e, if_pos e]; exact r.repl k ry
  · rw [if_neg e, if_neg e]; exact Paired.snoc r ⟨rfl, ry⟩
theorem KV.length {kvs : List (κ × V)} {vs : List (κ × Value)} (r : KV kvs vs) : kvs.length = vs.length := Paired.length r
end
section
variable {P : Program} {w : World} {H : Hp} {h : Heap} {a : Addr}
end
section
variable {X : Cx} {pins : List (Addr × Obj)} {σ : St} {H : Hp} {s : Shared} {a : Addr} {y v : V} {u r : Value} {o : Option V} {A : Around} {E : Value → Shared → Prop}
theorem Inv.big (I : Inv X pins σ H s) : sysModules < s.heap.objs.size := by
  have h : mainGlobals < s.heap.objs.size := (I.mod.glob.keeps I.bk).lt
  exact Nat.lt_trans (by decide) h
theorem d_write {h' : Heap} {t' : Nat} {ob : HO} (I : Inv X pins σ H s) (mu : Mut (H a)) (hs : Heap.SameBut a s.heap h') (he : ∃ q, h'.get? a = some q) (new : ObjOk X.prog X.w (upd H a ob) h' a ob) :
    Inv X pins σ (upd H a ob) { s with heap := h', toks := t' } :=
  I.write (x := a) (e := a) mu (.inl rfl) (fun b q hb z => (hs.2 b hb).trans z) he new
end
end L2
namespace L2
open PySem PySem.Spec PyProof.Rows
def optIs : Option Str → Value → Bool
  | none, .none => true
  | none, _ => false
  | some x, v => keyIs (.inr x) v
theorem optIs_shape {k : Option Str} {v : Value} (h : optIs k v = true) : (k = none ∧ v = .none) ∨ ∃ x t, k = some x ∧ v = .str x t := by
  cases k with
  | none => cases v <;> first | exact .inl ⟨rfl, rfl⟩ | cases h
  | some x =>
    rcases keyIs_shape (show keyIs (.inr x) v = true from h) with ⟨i, t, e, _⟩ | ⟨y, t, e, rfl⟩
    · cases e
    · cases e; exact .inr ⟨x, t, rfl, rfl⟩
theorem eqBool_nones {prog : Program} {w : World} {A : Around} {E : Value → Shared → Prop} {s : Shared} {Q : Bool → Shared → Prop} (h : Q true s) : wpAny (model prog w) A (PySem.eqBool .none .none) Q E s := by
  unfold PySem.eqBool
  refine wpAny_holding ?_
  rw [if_pos (by rfl)]
  exact wpAny_bind (wpAny_rule (wpAny_pure h))
def optH (w : World) : Option Str → Int
  | none => PySem.W.hashW w.params .none
  | some x => keyH w (.inr x)
def optKind (prog : Program) (w : World) : PySem.KeyKind prog w (Option Str) where
  is := optIs
  hash := optH w
  inj := fun v a b ha hb => by
    rcases optIs_shape ha with ⟨rfl, rfl⟩ | ⟨x, t, rfl, rfl⟩
    · rcases optIs_shape hb with ⟨rfl, e⟩ | ⟨y, u, rfl, e⟩
      · rfl
      · exact nomatch e
    · rcases optIs_shape hb with ⟨rfl, e⟩ | ⟨y, u, rfl, e⟩
      · exact nomatch e
      · injection e with e1 _; rw [e1]
  byValue := fun k v h => by
    rcases optIs_shape h with ⟨rfl, rfl⟩ | ⟨x, t, rfl, rfl⟩ <;> rfl
  pyHash := fun hv h => by
    rcases optIs_shape hv with ⟨rfl, rfl⟩ | ⟨x, t, rfl, rfl⟩
    · exact PySem.W.pyHash_slot (T := "NoneType") rfl F.slot_NoneType_hash F.entry_NoneType_hash (F.args_NoneType_hash_1 _) (beq_builtin_none _) (.inl rfl) (wpAny_bind (wpAny_pure (wpAny_bind (wpAny_mkInt (wpAny_pure ⟨_, _, rfl, h⟩)))))
    · exact wpAny_pyHash_str h
  eqBool := fun hu hv h => by
    rcases optIs_shape hu with ⟨rfl, rfl⟩ | ⟨x, t, rfl, rfl⟩
    · rcases optIs_shape hv with ⟨rfl, rfl⟩ | ⟨y, u, rfl, rfl⟩
      · rw [decide_eq_true rfl] at h
        exact eqBool_nones h
      · rw [decide_eq_false (fun q => nomatch q)] at h; exact SeqAt.EqAt.none_str y u _ _ _ _ h
    · rcases optIs_shape hv with ⟨rfl, rfl⟩ | ⟨y, u, rfl, rfl⟩
      · rw [decide_eq_false (fun q => nomatch q)] at h; exact SeqAt.EqAt.str_none x t _ _ _ _ h
      · rw [show decide ((some x : Option Str) = some y) = decide (x = y) by
          by_cases e : x = y
          · subst e; simp
          · rw [decide_eq_false e, decide_eq_false (fun q => e (Option.some.inj q))]] at h
        exact wpAny_eqBool_str h
  «strs» := fun k x t v h => by
    rcases optIs_shape h with ⟨rfl, e⟩ | ⟨y, u, rfl, e⟩
    · exact nomatch e
    · injection e with e1 _
      subst e1
      cases v <;> rfl
def optV : Option Str → V
  | none => .non
  | some x => .str x
theorem optV_is {P : Program} {w : World} {k : Option Str} {u : Value} (r : RelV (optV k) u) : (optKind P w).is k u = true := by
  cases k with
  | none => cases (show u = Value.none from r); rfl
  | some x =>
    obtain ⟨t, rfl⟩ := (show ∃ t, u = Value.str x t from r)
    exact keyIs_str x t
def DN (P : Program) (w : World) (a : Addr) (kvs : List (Option Str × V)) : HO := .ext fun h => kvs.length ≤ sizeLine ∧ (a == sysModules) = false ∧ ∃ vs, KV kvs vs ∧ h.DictOf (optKind P w) a vs
def ViewO (v d : Addr) : HO := .ext fun h => h.get? v = some { cls := .type "dict_items", data := .fields #[.ref d] }
section
variable {X : Cx} {pins : List (Addr × Obj)} {σ : St} {H : Hp} {s : Shared} {a : Addr} {kvs : List (Option Str × V)}
theorem dn_ok {P : Program} {w : World} {h : Heap} {vs : List (Option Str × Value)} (hl : kvs.length ≤ sizeLine) (hd : (a == sysModules) = false) (rel : KV kvs vs) (dd : h.DictOf (optKind P w) a vs) : ObjOk P w H h a (DN P w a kvs) := by
  obtain ⟨o, es, ep, ho, r⟩ := id dd
  refine ⟨⟨hl, hd, vs, rel, dd⟩, ⟨o, ho⟩, fun h1 h2 x k => ?_⟩
  obtain ⟨z1, z2, ws, z3, o', es', ep', ho', r'⟩ := x
  exact ⟨z1, z2, ws, z3, o', es', ep', k _ ho', r'⟩
theorem dn_of (I : Inv X pins σ H s) (e : H a = some (DN X.prog X.w a kvs)) : kvs.length ≤ sizeLine ∧ (a == sysModules) = false ∧ ∃ vs, KV kvs vs ∧ s.heap.DictOf (optKind X.prog X.w) a vs := (I.hok a _ e).1
theorem dn_type (I : Inv X pins σ H s) (e : H a = some (DN X.prog X.w a kvs)) : s.TypeIs (.ref a) "dict" ∧ ∀ b, Value.ref a = .ref b → ∃ ob, s.heap.get? b = some ob ∧ ob.dict = none := by
  obtain ⟨_, _, vs, _, dd⟩ := dn_of I e
  refine ⟨dd.typeIs, fun b q => ?_⟩
  cases q
  obtain ⟨ob, _, _, h1, h2, _⟩ := dd
  exact ⟨ob, h1, h2.2.1⟩
end
def tDNewN (P : Program) (w : World) : TE := fun _ H Q => ∀ p, H p = none → Q (.ref p) (upd H p (DN P w p []))
theorem pe_dnewN {X : Cx} {pos : Pos} : PE X (.Dict [] [] pos) (tDNewN X.prog X.w) := fun pins s σ H Q I h =>
  wpAny_Dict_empty ⟨.ref s.heap.objs.size, _, I.laid (a := s.heap.objs.size) (o := DN X.prog X.w s.heap.objs.size []) (t' := s.toks) (fun _ _ q => Heap.get?_push_of_some _ q) (Nat.le_refl _) (dn_ok (Nat.zero_le _) (beq_eq_false_iff_ne.mpr (Ne.symm (Nat.ne_of_lt I.big))) .nil (Heap.DictOf.new s.heap)), rfl, h _ (I.hok.fresh (Nat.le_refl _))⟩
section
variable {X : Cx} {o e : Expr} {es : List Expr} {to : TE} {t : TA} {name : Str} {apos cpos : Pos} {id : String} {r : V → List V → Hp → VK → Prop}
def tBMN (P : Program) (w : World) (r : V → List V → Hp → VK → Prop) (to : TE) (t : TA) : TE := fun σ H Q => to σ H fun x H1 => ∃ a kvs, x = .ref a ∧ H1 a = some (DN P w a kvs) ∧ t σ H1 fun xs H2 => r x xs H2 Q
def tBMN0 (P : Program) (w : World) (r : V → List V → Hp → VK → Prop) (to : TE) : TE := fun σ H Q => to σ H fun x H1 => ∃ a kvs, x = .ref a ∧ H1 a = some (DN P w a kvs) ∧ r x [] H1 Q
theorem pe_bmN0 (slot : Slot "dict" name id) (hty : typeOf (.builtin id) = pure (.type "method_descriptor")) (hm : MtM X id r) (ho : PE X o to)
    (hbase : attributeBase o name X.env (eval o X.env) = eval o X.env := by rfl) (hline : (apos.endLine == cpos.line) = true := by rfl) : PE X (.Call (.Attribute o name apos) [] [] cpos) (tBMN0 X.prog X.w r to) := by
  intro pins s σ H Q I h
  refine wpAny_Call_method0_late hbase hline (thn (ho pins s σ H _ I h) fun v s1 ⟨x, H1, I1, r1, a, kvs, ex, hd, q1⟩ => ?_)
  subst ex
  cases r1
  obtain ⟨h1, h2⟩ := dn_type I1 hd
  exact ⟨"dict", id, F.plainAttrs_dict, slot, hty, h1, h2, Calls.callWith_builtin rfl (PySem.evalArgs_none (hm pins s1 σ H1 (.ref a) [] _ [] Q I1 rfl .nil q1))⟩
theorem pe_bmN (slot : Slot "dict" name id) (hty : typeOf (.builtin id) = pure (.type "method_descriptor")) (hm : MtM X id r) (ho : PE X o to) (ha : PA X (e :: es) t)
    (hbase : attributeBase o name X.env (eval o X.env) = eval o X.env := by rfl)
    (hfew : ((backTo cpos (starEach (e :: es) X.env)).all (fun x => !x.1) && (backToKw cpos (keywordEach [] X.env)).all (fun x => x.1.isSome)
      && decide ((e :: es).length + ([] : List Keyword).length + (if ([] : List Keyword).isEmpty then 0 else 1) < 30)) = true := by rfl)
    (hline : (apos.endLine == cpos.line) = true := by rfl) (hs : starEach (e :: es) X.env = (false, eval e X.env) :: starEach es X.env := by rfl) (hplain : (backTo cpos (starEach es X.env)).any (·.1) = false := by rfl) :
    PE X (.Call (.Attribute o name apos) (e :: es) [] cpos) (tBMN X.prog X.w r to t) := by
  intro pins s σ H Q I h
  refine wpAny_Call_method_late hbase hfew hline rfl (thn (ho pins s σ H _ I h) fun v s1 ⟨x, H1, I1, r1, a, kvs, ex, hd, q1⟩ => ?_)
  subst ex
  cases r1
  obtain ⟨h1, h2⟩ := dn_type I1 hd
  refine ⟨"dict", id, F.plainAttrs_dict, slot, hty, h1, h2, ?_⟩
  have hA := ha cpos pins s1 σ H1 _ I1 q1
  rw [hs] at hA ⊢
  refine Calls.callWith_builtin (by show (false || (backTo cpos (starEach es X.env)).any (·.1)) = false; rw [hplain] <;> rfl) (Calls.evalArgs_plain ?_)
  exact thn hA fun us s2 ⟨vs, H2, I2, r2, q2⟩ => hm pins s2 σ H2 (.ref a) vs _ us Q I2 rfl r2 q2
end
section
variable {X : Cx}
def rDGetN (P : Program) (w : World) : V → List V → Hp → VK → Prop := fun x vs H Q => ∃ a kvs k y, x = .ref a ∧ vs = [optV k, y] ∧ H a = some (DN P w a kvs) ∧ Q ((valV kvs k).getD y) H
theorem mt_dgetN : MtM X "dict.get" (rDGetN X.prog X.w) := by
  intro pins s σ H x vs v us Q I rx rv h
  obtain ⟨a, kvs, k, y, rfl, rfl, e, q⟩ := h
  cases rx
  obtain ⟨u1, u2, rfl, r1, r2⟩ := vals2 rv
  obtain ⟨z, hd, ws, rel, dd⟩ := dn_of I e
  exact call_meetsIn PySem.F.slot_dict_get dd.typeIs PySem.F.entry_dict_get (PySem.F.args_dict_get_3 _ _ _) (meets_dict_get_default (optKind X.prog X.w) a (optV_is r1) hd u2) ⟨_, dd.mapOf, _, H, I.tok _, (rel.val k).getD r2, q⟩
def rSetN (P : Program) (w : World) : V → V → V → Hp → (Hp → Prop) → Prop := fun o i v H Q => ∃ a kvs k, o = .ref a ∧ i = optV k ∧ H a = some (DN P w a kvs) ∧ kvs.length < sizeLine ∧ Q (upd H a (DN P w a (putK kvs k v)))
theorem set_dictN : PSet X (rSetN X.prog X.w) := by
  intro pins s σ H o i v ov iv u Q I ro ri rv h
  obtain ⟨a, kvs, k, rfl, rfl, e, l, q⟩ := h
  cases ro
  obtain ⟨z, hd, vs, rel, dd⟩ := dn_of I e
  have hz : vs.length ≤ sizeLine := by rw [← rel.length]; exact z
  have hl : (putK kvs k v).length ≤ sizeLine := by have := length_putK kvs k v; omega
  refine wpAny_setItem_pairs (hsz := hz) (optV_is ri) dd fun h' dd' hs => ⟨_, ?_, q⟩
  have he : ∃ q, h'.get? a = some q := let ⟨q, _, _, hq, _⟩ := dd'; ⟨q, hq⟩
  exact d_write I (by rw [e]; exact True.intro) hs he (dn_ok hl hd (rel.put k rv) dd')
def rItemsN (P : Program) (w : World) : V → List V → Hp → VK → Prop := fun x vs H Q => ∃ a kvs, x = .ref a ∧ vs = [] ∧ H a = some (DN P w a kvs) ∧ ∀ v, H v = none → Q (.ref v) (upd H v (ViewO v a))
theorem mt_itemsN : MtM X "dict.items" (rItemsN X.prog X.w) := by
  intro pins s σ H x vs v us Q I rx rv h
  obtain ⟨a, kvs, rfl, rfl, e, q⟩ := h
  cases rx
  cases rv
  obtain ⟨z, hd, ws, rel, dd⟩ := dn_of I e
  refine call_meetsIn PySem.F.slot_dict_items dd.typeIs PySem.F.entry_dict_items (PySem.F.args_dict_items_1 _) (meets_dict_items (optKind X.prog X.w) a hd) ⟨⟨_, dd⟩, .ref s.heap.objs.size, _, I.laid (a := s.heap.objs.size) (o := ViewO s.heap.objs.size a) (t' := s.toks) (fun _ _ q => Heap.get?_push_of_some _ q) (Nat.le_refl _) ?_, rfl, q _ (I.hok.fresh (Nat.le_refl _))⟩
  exact ⟨Heap.get?_push_size _ rfl, ⟨_, Heap.get?_push_size _ rfl⟩, fun h1 h2 x k => k _ x⟩
end
end L2
namespace PySem
open AutoSeq1 (wpAny_loadPart')
open PySem.W (KdxG kdx_collect)
theorem tuple_of_items {prog : Program} {w : World} {K : Type} [DecidableEq K] {knd : KeyKind prog w K} {r d : Addr} {kvs : List (K × Value)} {ep : Nat} (hn : kvs.length ≤ sizeLine) :
    MeetsIn prog w (Builtin.«tuple.__new__» ⟨[.type "tuple", .ref r], []⟩)
      (fun A R s => A.handled = none ∧ s.heap.IsItemsView r d ∧ s.heap.DictAt knd d kvs ep ∧ ∀ (h' : Heap) (tk : Nat) (as : List Addr), (∀ b o, s.heap.get? b = some o → h'.get? b = some o) → as.length = kvs.length → KdxG knd kvs s.heap.objs.size h' as →
        R (.ok (.ret (.ref h'.objs.size))) { s with heap := h'.push { cls := .type "tuple", data := .seq (as.map Value.ref).toArray }, toks := tk }) :=
  .of_wp fun A R s h => by
    obtain ⟨hh, hv, hm, h⟩ := h
    have hsub := sub_tuple_self
    have hinit := init_tuple_lookup
    have hmh := madeHere_tuple
    obtain ⟨o, ho, hc, hd⟩ := id hv
    have hT : s.TypeIs (.ref r) "dict_items" := ⟨o, ho, hc⟩
    have hh1 : A.in1.handled = none := hh
    wp_walk using wpAny_loadPart' ho, wpAny_typeOf hT, kdx_collect (knd := knd) (kvs := kvs) (ep := ep) (d := d) hh1 hv hm hn
    intro h' tk as hk hl hG
    show wpAny _ _ (Builtin.Tuple.tupleExact (as.map Value.ref).toArray >>= fun v => ret v) _ _ _
    unfold Builtin.Tuple.tupleExact
    refine wpAny_bind (wpAny_newObj_type ?_ (show (as.map Value.ref).toArray.size ≤ sizeLine by rw [List.size_toArray, List.length_map, hl]; exact hn))
    exact wpAny_pure ⟨_, rfl, h h' tk as hk hl hG⟩
theorem call_tuple_items {prog : Program} {w : World} {K : Type} [DecidableEq K] {knd : KeyKind prog w K} {A : Around} {E : Value → Shared → Prop} {s : Shared} {r d : Addr} {kvs : List (K × Value)} {ep : Nat} {Q : Value → Shared → Prop} (hh : A.handled = none) (hv : s.heap.IsItemsView r d) (hm : s.heap.DictAt knd d kvs ep) (hn : kvs.length ≤ sizeLine)
    (h : ∀ (h' : Heap) (tk : Nat) (as : List Addr), (∀ b o, s.heap.get? b = some o → h'.get? b = some o) → as.length = kvs.length → KdxG knd kvs s.heap.objs.size h' as →
        Q (.ref h'.objs.size) { s with heap := h'.push { cls := .type "tuple", data := .seq (as.map Value.ref).toArray }, toks := tk }) : wpAny (model prog w) A (call (.type "tuple") [.ref r]) Q E s :=
  callType_newIn F.called_tuple (by decide) (F.typeCall_tuple_1 _) (F.newCall_tuple_1 _) (fun obj => F.args_object_init_2 obj _) F.entry_tuple_new
    (tuple_of_items (knd := knd) (ep := ep) (d := d) hn) ⟨hh, hv, hm, fun h' tk as hk hl hG => ⟨⟨_, Heap.get?_push_size _ rfl, rfl⟩, h h' tk as hk hl hG⟩⟩
end PySem
namespace L2
open PySem PySem.Spec PyProof.Rows
def updAll (H : Hp) (os : List (Addr × HO)) : Hp := fun b => match os.find? (fun p => p.1 == b) with | some p => some p.2 | none => H b
theorem updAll_in {H : Hp} {os : List (Addr × HO)} {b : Addr} {p : Addr × HO} (e : os.find? (fun p => p.1 == b) = some p) : updAll H os b = some p.2 := by unfold updAll; rw [e]
theorem updAll_out {H : Hp} {os : List (Addr × HO)} {b : Addr} (h : ∀ p ∈ os, p.1 ≠ b) : updAll H os b = H b := by
  unfold updAll
  rw [List.find?_eq_none.mpr fun p hp => by rw [beq_iff_eq]; exact h p hp]
theorem updAll_mem {H : Hp} {os : List (Addr × HO)} {p : Addr × HO} (hn : (os.map (·.1)).Nodup) (h : p ∈ os) : updAll H os p.1 = some p.2 := by
  induction os with
  | nil => cases h
  | cons q r ih =>
    unfold updAll
    rw [List.map_cons, List.nodup_cons] at hn
    rcases List.mem_cons.mp h with rfl | h
    · rw [List.find?_cons_of_pos (by simp)]
    · rw [List.find?_cons_of_neg (by
        rw [beq_iff_eq]
        intro e
        exact hn.1 (e ▸ List.mem_map.mpr ⟨p, h, rfl⟩))]
      exact ih hn.2 h
section
variable {X : Cx} {pins : List (Addr × Obj)} {σ : St} {H : Hp} {s : Shared}
theorem Inv.lays {h' : Heap} {t' : Nat} (I : Inv X pins σ H s) (k : ∀ b u, s.heap.get? b = some u → h'.get? b = some u) (os : List (Addr × HO)) (hp : ∀ p ∈ os, s.heap.objs.size ≤ p.1) (new : ∀ p ∈ os, ∀ H2, ObjOk X.prog X.w H2 h' p.1 p.2) : Inv X pins σ (updAll H os) { s with heap := h', toks := t' } := by
  have old : ∀ b, b < s.heap.objs.size → updAll H os b = H b := fun b hb => updAll_out fun p hp' e => absurd (e ▸ hp p hp') (Nat.not_le_of_lt hb)
  have oldH : ∀ b u, H b = some u → updAll H os b = H b := fun b u e => old b (I.hok b u e).lt
  refine I.un ⟨fun b u q _ _ _ => k b u q, fun b u q _ _ _ => ⟨u.slots, k b u q⟩, fun b u q n _ => by rw [old b (Heap.lt_size q)]; exact n, fun b u q _ => ⟨u, k b u q⟩, fun b xs q => by rw [oldH b _ q]; exact q, fun b u xs q => by rw [oldH b _ q]; exact q, fun b ps q => ⟨#[], by rw [oldH b _ q, q]; simp⟩⟩ ?_
  intro b u e
  cases ef : os.find? (fun p => p.1 == b) with
  | some p =>
    rw [updAll_in ef] at e
    cases e
    have h1 := List.mem_of_find?_eq_some ef
    have h2 := List.find?_some ef
    rw [beq_iff_eq] at h2
    subst h2
    exact new p h1 _
  | none =>
    have e2 : H b = some u := by unfold updAll at e; rw [ef] at e; exact e
    exact (I.hok b u e2).stay (fun c v _ q => k c v q) (fun c q => by rw [oldH c _ q]; exact q) fun c xs q => by rw [oldH c _ q]; exact q
end
structure PairsAt (H : Hp) (as : List Addr) (kvs : List (Option Str × V)) : Prop where
  len : as.length = kvs.length
  item : ∀ (i : Nat) (a : Addr) (k : Option Str) (v : V), as[i]? = some a → kvs[i]? = some (k, v) → H a = some (.tup [optV k, v])
theorem optV_rel {P : Program} {w : World} {k : Option Str} {u : Value} (h : (optKind P w).is k u = true) : RelV (optV k) u := by
  rcases optIs_shape (show optIs k u = true from h) with ⟨rfl, rfl⟩ | ⟨x, t, rfl, rfl⟩
  · rfl
  · exact ⟨t, rfl⟩
theorem vals_refs : ∀ as : List Addr, Vals (as.map V.ref) (as.map Value.ref)
  | [] => .nil
  | a :: r => .cons rfl (vals_refs r)
theorem Paired.at {α β : Type} {F : α → β → Prop} : ∀ {xs : List α} {ys : List β} {i : Nat} {x : α}, Paired F xs ys → xs[i]? = some x → ∃ y, ys[i]? = some y ∧ F x y
  | _, _, _, _, .nil, e => by simp at e
  | _, _, 0, _, .cons r _, e => by simp at e; subst e; exact ⟨_, rfl, r⟩
  | _, _, i + 1, x, .cons _ t, e => by
    obtain ⟨u, h1, h2⟩ := Paired.at (i := i) (x := x) t (by simpa using e)
    exact ⟨u, by simpa using h1, h2⟩
theorem call_tuple_view {X : Cx} (hc : X.calm = true) : CallR X (.type "tuple") (fun xs H Q => ∃ v a kvs, xs = [.ref v] ∧ H v = some (ViewO v a) ∧ H a = some (DN X.prog X.w a kvs) ∧
    ∀ (H' : Hp) (t : Addr) (as : List Addr), (∀ b o, H b = some o → H' b = some o) → H t = none → H' t = some (.tup (as.map V.ref)) → PairsAt H' as kvs → Q (.ref t) H') := by
  intro pins s σ H xs us Q I r h
  obtain ⟨v, a, kvs, rfl, hv, ha, q⟩ := h
  obtain ⟨u, rfl, rx⟩ := vals1 r
  cases rx
  obtain ⟨z, hd, ws, rel, dd⟩ := dn_of I ha
  obtain ⟨o, es, ep, ho, rr⟩ := dd
  have hview : s.heap.IsItemsView v a := ⟨_, (I.hok v _ hv).1, rfl, rfl⟩
  have hz : ws.length ≤ sizeLine := by rw [← rel.length]; exact z
  refine call_tuple_items (knd := optKind X.prog X.w) (kvs := ws) (ep := ep) (d := a) (I.ok.hd hc) hview ⟨o, es, ho, rr⟩ hz fun h' tk as hk hl hG => ?_
  have hlk : as.length = kvs.length := by rw [hl, rel.length]
  have enames : (((as.zip kvs).map fun p => (p.1, HO.tup [optV p.2.1, p.2.2])).map fun q => q.1) = as := by
    rw [List.map_map]
    exact List.map_fst_zip (Nat.le_of_eq hlk)
  have hnd : (((as.zip kvs).map fun p => (p.1, HO.tup [optV p.2.1, p.2.2])).map fun q => q.1).Nodup := by
    rw [enames]
    exact hG.rise.imp fun h => Nat.ne_of_lt h
  have I1 := I.lays (h' := h') (t' := tk) hk ((as.zip kvs).map fun p => (p.1, HO.tup [optV p.2.1, p.2.2])) (fun p hp => by
      have h1 : p.1 ∈ as := by rw [← enames]; exact List.mem_map.mpr ⟨p, hp, rfl⟩
      exact Nat.le_of_lt (hG.above _ h1)) (fun p hp H2 => by
      obtain ⟨x, hx, rfl⟩ := List.mem_map.mp hp
      obtain ⟨j, hj⟩ := List.mem_iff_getElem?.mp hx
      obtain ⟨h1, h2⟩ := List.getElem?_zip_eq_some.mp hj
      obtain ⟨key, k', x', e1, e2, e3⟩ := hG.pairs j _ h1
      obtain ⟨y, ey, r1, r2⟩ := Paired.at rel h2
      rw [e1] at ey
      cases ey
      refine ⟨by show 2 ≤ sizeLine; rw [sizeLine_eq]; omega, [key, x'], .cons ?_ (.cons r2 .nil), _, e3, rfl, 0, rfl⟩
      have r1 : x.2.1 = k' := r1
      rw [r1]
      exact optV_rel e2)
  have I2 : Inv X pins σ (upd (updAll H ((as.zip kvs).map fun p => (p.1, HO.tup [optV p.2.1, p.2.2]))) h'.objs.size (.tup (as.map V.ref))) { s with heap := h'.push { cls := .type "tuple", data := .seq (as.map Value.ref).toArray }, toks := tk } :=
    I1.laid (t' := tk) (fun b o e => Heap.get?_push_of_some _ e) (Nat.le_refl _) (show ObjOk X.prog X.w _ _ _ (.tup (as.map V.ref)) from ⟨by rw [List.length_map, hlk]; exact z, as.map Value.ref, vals_refs as, IsTup.new _ _⟩)
  have hfr := I1.hok.fresh (Nat.le_refl _)
  have keepsAll : ∀ b o, H b = some o → updAll H ((as.zip kvs).map fun p => (p.1, HO.tup [optV p.2.1, p.2.2])) b = some o := fun b o e => by
    rw [updAll_out fun p hp e2 => ?_]
    · exact e
    · have h1 : p.1 ∈ as := by rw [← enames]; exact List.mem_map.mpr ⟨p, hp, rfl⟩
      exact absurd (e2 ▸ hG.above _ h1) (Nat.not_lt_of_lt (I.hok b o e).lt)
  have nt : ∀ b o, updAll H ((as.zip kvs).map fun p => (p.1, HO.tup [optV p.2.1, p.2.2])) b = some o → b ≠ h'.objs.size := fun b o e e2 => by rw [e2, hfr] at e; cases e
  refine ⟨.ref h'.objs.size, _, I2, rfl, q _ _ as (fun b o e => by rw [upd_ne (nt b o (keepsAll b o e))]; exact keepsAll b o e) ?_ upd_same ⟨hlk, fun i c k y e1 e2 => ?_⟩⟩
  · cases e : H h'.objs.size with
    | none => rfl
    | some o => exact absurd rfl (nt _ o (keepsAll _ o e))
  · have hm := updAll_mem (H := H) hnd (p := (c, HO.tup [optV k, y])) (List.mem_map.mpr ⟨(c, k, y), List.mem_of_getElem? (List.getElem?_zip_eq_some.mpr ⟨e1, e2⟩), rfl⟩)
    rw [upd_ne (nt c _ hm)]
    exact hm
end L2
namespace L3
open PySem PySem.Spec PyProof.Rows L2
section
variable {prog : Program} {w : World} {A : Around} {E : Value → Shared → Prop} {s : Shared} {z c t : Addr} {xs : Array Value} {S : Nat → Heap → Prop} {k : Nat}
end
section
variable {X : Cx} {es : List Expr} {x1 : Nat} {tpos : Pos}
end
end L3
namespace Vm
open PySem PySem.Spec PyProof.Rows L2 L3
def Ent (v : V) : Prop := v = .non ∨ ∃ z, Good z ∧ v = .str z
def ColsAt (H : Hp) (cs : List (Addr × List V)) (m : Nat) : Prop := ∀ x ∈ cs, H x.1 = some (.tup x.2) ∧ x.2.length = m ∧ ∀ e ∈ x.2, Ent e
theorem ColsAt.mono {H H' : Hp} {cs : List (Addr × List V)} {m : Nat} (S : Same H H') (h : ColsAt H cs m) : ColsAt H' cs m := fun x hx => ⟨S _ _ (h x hx).1, (h x hx).2⟩
theorem ent_flat {v : V} (h : Ent v) : flatV v = true := by
  rcases h with rfl | ⟨z, hz, rfl⟩ <;> rfl
theorem ent_scal {v u : V} (h : Ent v) (h2 : Ent u) : scal v u = true := by
  rcases h with rfl | ⟨z, hz, rfl⟩ <;> rcases h2 with rfl | ⟨y, hy, rfl⟩ <;> rfl
abbrev Rdg := V × List Nat
def natV (n : Nat) : V := .int ((n : Nat) : Int)
def RdgOk (x : Rdg) : Prop := Ent x.1 ∧ x.2.length ≤ 30 ∧ ∀ n ∈ x.2, n < 30
def RdgAt (H : Hp) (t : Addr) (x : Rdg) : Prop := RdgOk x ∧ ∃ r, H t = some (.tup [x.1, .ref r]) ∧ H r = some (.tup (x.2.map natV))
theorem RdgAt.mono {H H' : Hp} {t : Addr} {x : Rdg} (S : Same H H') (h : RdgAt H t x) : RdgAt H' t x := by
  obtain ⟨ho, r, h1, h2⟩ := h
  exact ⟨ho, r, S _ _ h1, S _ _ h2⟩
abbrev Note := Nat × List (Addr × Rdg)
def NoteAt (H : Hp) (t : Addr) (x : Note) : Prop := x.1 < 10000 ∧ x.2.length ≤ 30 ∧ (∀ y ∈ x.2, RdgAt H y.1 y.2) ∧ ∃ q, H t = some (.tup [natV x.1, .ref q]) ∧ H q = some (.tup (x.2.map fun y => V.ref y.1))
theorem NoteAt.mono {H H' : Hp} {t : Addr} {x : Note} (S : Same H H') (h : NoteAt H t x) : NoteAt H' t x := by
  obtain ⟨h1, h2, h3, q, h4, h5⟩ := h
  exact ⟨h1, h2, fun y hy => (h3 y hy).mono S, q, S _ _ h4, S _ _ h5⟩
end Vm
namespace Vm
open PySem PySem.Spec PyProof.Rows L2 L3
section
variable {X : Cx}
theorem op_catA : OpR X (binaryOp .Add) (fun x y H Q => ∃ (a b : Addr) (xs ys : List V), x = .ref a ∧ y = .ref b ∧ SqT X.K H a xs ∧ SqT X.K H b ys ∧ xs.length + ys.length ≤ sizeLine ∧ ∀ (r : Addr) (H2 : Hp), Same H H2 → SqT X.K H2 r (xs ++ ys) → Q (.ref r) H2) := by
  intro pins s σ H x y v u Q I rx ry h
  obtain ⟨a, b, xs, ys, rfl, rfl, ha, hb, hz, q⟩ := h
  by_cases hx : xs = []
  · cases rx; cases ry
    obtain ⟨its, r1, p1, _⟩ := I.tuple ha
    obtain ⟨its2, r2, p2, _⟩ := I.tuple hb
    have hv : its = [] := r1.nil_iff.mpr hx
    obtain ⟨⟨c1, dd1, data1, sl1⟩, o1, hc1, n1, hd1⟩ := id p1
    obtain ⟨⟨c2, dd2, data2, sl2⟩, o2, hc2, n2, hd2⟩ := id p2
    simp only at hc1 hd1 hc2 hd2
    subst hc1 hd1 hc2 hd2
    exact concat_meets ⟨_, o1, rfl⟩ ⟨_, o2, rfl⟩ noFill_tuple_add seq_tuple_add PySem.F.slot_tuple_add PySem.F.entry_tuple_add (PySem.F.args_tuple_add_2 _ _) (tuple_addW0 a b its.toArray its2.toArray n1 n2 dd1 dd2 sl1 sl2 (by simp [hv])) ⟨o1, o2, ⟨.ref b, H, I, rfl, q b H (Same.refl H) (by rw [hx]; exact hb)⟩⟩
  · exact op_catT pins s σ H _ _ v u Q I rx ry ⟨a, b, xs, ys, rfl, rfl, ha, hb, hx, hz, fun e => q a H (Same.refl H) (by rw [e, List.append_nil]; exact ha), fun _ p hp => q p _ (same_upd hp) (SqT.of upd_same)⟩
end
end Vm
namespace L3
open PySem PySem.Spec PyProof.Rows L2
theorem op_catH {X : Cx} : OpR X (binaryOp .Add) (fun x y H Q => ∃ (a b : Addr) (xs ys : List V), x = .ref a ∧ y = .ref b ∧ H a = some (.tup xs) ∧ H b = some (.tup ys) ∧ xs.length + ys.length ≤ sizeLine ∧ ∀ (r : Addr) (H2 : Hp), Same H H2 → H2 r = some (.tup (xs ++ ys)) → Q (.ref r) H2) := by
  intro pins s σ H x y v u Q I rx ry h
  obtain ⟨a, b, xs, ys, rfl, rfl, ha0, hb0, hz, q⟩ := h
  have ha : SqT X.K H a xs := SqT.of ha0
  have hb : SqT X.K H b ys := SqT.of hb0
  by_cases hx : xs = []
  · cases rx; cases ry
    obtain ⟨its, r1, p1, _⟩ := I.tuple ha
    obtain ⟨its2, r2, p2, _⟩ := I.tuple hb
    have hv : its = [] := r1.nil_iff.mpr hx
    obtain ⟨⟨c1, dd1, data1, sl1⟩, o1, hc1, n1, hd1⟩ := id p1
    obtain ⟨⟨c2, dd2, data2, sl2⟩, o2, hc2, n2, hd2⟩ := id p2
    simp only at hc1 hd1 hc2 hd2
    subst hc1 hd1 hc2 hd2
    exact concat_meets ⟨_, o1, rfl⟩ ⟨_, o2, rfl⟩ noFill_tuple_add seq_tuple_add PySem.F.slot_tuple_add PySem.F.entry_tuple_add (PySem.F.args_tuple_add_2 _ _) (tuple_addW0 a b its.toArray its2.toArray n1 n2 dd1 dd2 sl1 sl2 (by simp [hv])) ⟨o1, o2, ⟨.ref b, H, I, rfl, q b H (Same.refl H) (by rw [hx]; exact hb0)⟩⟩
  · exact op_catT pins s σ H _ _ v u Q I rx ry ⟨a, b, xs, ys, rfl, rfl, ha, hb, hx, hz, fun e => q a H (Same.refl H) (by rw [e, List.append_nil]; exact ha0), fun _ p hp => q p _ (same_upd hp) upd_same⟩
end L3
namespace Vm
open PySem PySem.Spec PyProof.Rows L2 L3
end Vm
namespace L3
open PySem PySem.Spec PyProof.Rows L2
end L3
namespace Vm
open PySem PySem.Spec PyProof.Rows L2 L3
def entStep (e0 : V) (us : List V) (x : V) : List V := if x = e0 then us else if x ∈ us then us else us ++ [x]
def entTo (es : List V) (i : Nat) : List V := (es.take i).foldl (entStep (es.getD 0 .non)) []
def rowsTo (es : List V) (x : V) (n : Nat) : List Nat := (List.range n).filter fun k => decide (es.getD k .non = x)
def rdgsOf (es : List V) : List Rdg := (entTo es es.length).map fun x => (x, rowsTo es x es.length)
theorem entTo_step {es : List V} {i : Nat} {x : V} (h : es[i]? = some x) : entTo es (i + 1) = entStep (es.getD 0 .non) (entTo es i) x := by
  unfold entTo
  rw [List.take_add_one, h, List.foldl_append]
  rfl
theorem rowsTo_step (es : List V) (x : V) (n : Nat) : rowsTo es x (n + 1) = rowsTo es x n ++ (if es.getD n .non = x then [n] else []) := by
  unfold rowsTo
  rw [List.range_succ, List.filter_append]
  by_cases h : es.getD n .non = x
  · rw [if_pos h, List.filter_cons_of_pos (by exact decide_eq_true h)]
    rfl
  · rw [if_neg h, List.filter_cons_of_neg (by rw [decide_eq_false h]; exact Bool.false_ne_true)]
    rfl
theorem rowsTo_len (es : List V) (x : V) (n : Nat) : (rowsTo es x n).length ≤ n := by
  unfold rowsTo
  exact Nat.le_trans (List.length_filter_le _ _) (by rw [List.length_range]; exact Nat.le_refl _)
theorem rowsTo_lt {es : List V} {x : V} {n k : Nat} (h : k ∈ rowsTo es x n) : k < n := List.mem_range.mp (List.mem_filter.mp h).1
theorem entStep_mem {e0 x y : V} {us : List V} (h : y ∈ entStep e0 us x) : y ∈ us ∨ y = x ∧ x ≠ e0 := by
  unfold entStep at h
  split at h
  · exact .inl h
  · rename_i h1
    split at h
    · exact .inl h
    · rcases List.mem_append.mp h with h | h
      · exact .inl h
      · exact .inr ⟨List.mem_singleton.mp h, h1⟩
theorem entTo_mem {es : List V} {y : V} : ∀ i : Nat, y ∈ entTo es i → y ∈ es ∧ y ≠ es.getD 0 .non
  | 0, h => nomatch h
  | i + 1, h => by
    cases e : es[i]? with
    | none =>
      have : entTo es (i + 1) = entTo es i := by unfold entTo; rw [List.take_add_one, e]; simp
      rw [this] at h
      exact entTo_mem i h
    | some x =>
      rw [entTo_step e] at h
      rcases entStep_mem h with h | ⟨rfl, h⟩
      · exact entTo_mem i h
      · exact ⟨List.mem_of_getElem? e, h⟩
theorem entStep_len {e0 x : V} {us : List V} : (entStep e0 us x).length ≤ us.length + 1 := by
  unfold entStep
  split
  · omega
  · split
    · omega
    · rw [List.length_append]; exact Nat.le_refl _
theorem entTo_len (es : List V) : ∀ i : Nat, (entTo es i).length ≤ i
  | 0 => Nat.le_refl _
  | i + 1 => by
    have := entTo_len es i
    cases e : es[i]? with
    | none =>
      have h : entTo es (i + 1) = entTo es i := by unfold entTo; rw [List.take_add_one, e]; simp
      rw [h]; omega
    | some x =>
      rw [entTo_step e]
      have := entStep_len (e0 := es.getD 0 .non) (x := x) (us := entTo es i)
      omega
theorem rows_none {es : List V} {x : V} : ∀ i : Nat, i ≤ es.length → x ∉ entTo es i → x ≠ es.getD 0 .non → rowsTo es x i = []
  | 0, _, _, _ => rfl
  | i + 1, hi, h, h0 => by
    have e := List.getElem?_eq_getElem (l := es) (i := i) (by omega)
    rw [entTo_step e] at h
    have h1 : x ∉ entTo es i := fun z => h (by
      unfold entStep
      split
      · exact z
      · split
        · exact z
        · exact List.mem_append_left _ z)
    have h2 : es.getD i .non ≠ x := fun z => h (by
      have ez : es[i] = x := by rw [← z, List.getD_eq_getElem?_getD, e]; rfl
      rw [ez]
      unfold entStep
      rw [if_neg h0, if_neg h1]
      exact List.mem_append_right _ (List.mem_singleton.mpr rfl))
    rw [rowsTo_step, if_neg h2, rows_none i (by omega) h1 h0]
    rfl
theorem rdgs_ok {es : List V} (hE : ∀ e ∈ es, Ent e) (hl : es.length ≤ 30) {x : V} (hx : x ∈ entTo es es.length) : RdgOk (x, rowsTo es x es.length) :=
  ⟨hE x (entTo_mem _ hx).1, by have := rowsTo_len es x es.length; show (rowsTo es x es.length).length ≤ 30; omega, fun n hn => by have := rowsTo_lt (show n ∈ rowsTo es x es.length from hn); omega⟩
def notesTo (cs : List (List V)) (n : Nat) : List (Nat × List Rdg) := ((List.range n).map fun i => (i, rdgsOf (cs.getD i []))).filter fun p => !p.2.isEmpty
theorem notesTo_step (cs : List (List V)) (n : Nat) : notesTo cs (n + 1) = notesTo cs n ++ (if rdgsOf (cs.getD n []) = [] then [] else [(n, rdgsOf (cs.getD n []))]) := by
  unfold notesTo
  rw [List.range_succ, List.map_append, List.filter_append]
  cases h : rdgsOf (cs.getD n []) with
  | nil =>
    rw [if_pos rfl, List.map_cons, List.filter_cons_of_neg (by rw [h]; exact Bool.false_ne_true)]
    rfl
  | cons a r =>
    rw [if_neg (fun z => nomatch z), List.map_cons, List.filter_cons_of_pos (by rw [h]; rfl), h]
    rfl
def toldN (y : Note) : Nat × List Rdg := (y.1, y.2.map fun z => z.2)
def vKey : V → Option Str
  | .str z => some z
  | _ => none
theorem vKey_ent {x : V} (h : Ent x) : L2.optV (vKey x) = x := by
  rcases h with rfl | ⟨z, _, rfl⟩ <;> rfl
theorem vKey_inj {x y : V} (h : Ent x) (h2 : Ent y) (e : vKey x = vKey y) : x = y := by rw [← vKey_ent h, ← vKey_ent h2, e]
def dnOf (ps : List (V × Addr)) : List (Option Str × V) := ps.map fun q => (vKey q.1, V.ref q.2)
theorem dn_none {ps : List (V × Addr)} {x : V} (hp : ∀ q ∈ ps, Ent q.1) (hx : Ent x) (h : x ∉ ps.map (·.1)) : valV (dnOf ps) (vKey x) = none := by
  induction ps with
  | nil => rfl
  | cons q r ih =>
    rw [List.map_cons, List.mem_cons, not_or] at h
    show valV ((vKey q.1, V.ref q.2) :: dnOf r) (vKey x) = none
    rw [valV_neg (fun e => h.1 (vKey_inj hx (hp q List.mem_cons_self) e.symm))]
    exact ih (fun q hq => hp q (List.mem_cons_of_mem _ hq)) h.2
theorem dn_some {ps : List (V × Addr)} {x : V} (hp : ∀ q ∈ ps, Ent q.1) (hx : Ent x) (h : x ∈ ps.map (·.1)) : ∃ a, (x, a) ∈ ps ∧ valV (dnOf ps) (vKey x) = some (.ref a) := by
  induction ps with
  | nil => cases h
  | cons q r ih =>
    by_cases c : x = q.1
    · refine ⟨q.2, by rw [c]; exact List.mem_cons_self, ?_⟩
      show valV ((vKey q.1, V.ref q.2) :: dnOf r) (vKey x) = _
      rw [valV_pos (by rw [c])]
    · rw [List.map_cons, List.mem_cons] at h
      obtain ⟨a, ha, e⟩ := ih (fun q hq => hp q (List.mem_cons_of_mem _ hq)) (h.resolve_left c)
      refine ⟨a, List.mem_cons_of_mem _ ha, ?_⟩
      show valV ((vKey q.1, V.ref q.2) :: dnOf r) (vKey x) = _
      rw [valV_neg (fun e => c (vKey_inj hx (hp q List.mem_cons_self) e.symm))]
      exact e
theorem dn_put {ps : List (V × Addr)} {x : V} {a : Addr} (hp : ∀ q ∈ ps, Ent q.1) (hx : Ent x) (h : x ∈ ps.map (·.1)) : putK (dnOf ps) (vKey x) (.ref a) = dnOf (ps.map fun q => if q.1 = x then (q.1, a) else q) := by
  obtain ⟨b, _, e⟩ := dn_some hp hx h
  unfold putK
  rw [if_pos (by rw [valV_any, e]; rfl)]
  unfold dnOf
  rw [List.map_map, List.map_map]
  refine List.map_congr_left fun q hq => ?_
  show (if vKey q.1 = vKey x then (vKey q.1, V.ref a) else (vKey q.1, V.ref q.2)) = (vKey (if q.1 = x then (q.1, a) else q).1, V.ref (if q.1 = x then (q.1, a) else q).2)
  by_cases c : q.1 = x
  · rw [if_pos (by rw [c]), if_pos c]
  · rw [if_neg (fun e => c (vKey_inj (hp q hq) hx e)), if_neg c]
theorem dn_new {ps : List (V × Addr)} {x : V} {a : Addr} (hp : ∀ q ∈ ps, Ent q.1) (hx : Ent x) (h : x ∉ ps.map (·.1)) : putK (dnOf ps) (vKey x) (.ref a) = dnOf (ps ++ [(x, a)]) := by
  rw [putK_new _ (dn_none hp hx h)]
  unfold dnOf
  rw [List.map_append]
  rfl
theorem zip_fst {α β γ : Type} (f : α → γ) : ∀ (as : List α) (bs : List β), as.length = bs.length → List.zipWith (fun a _ => f a) as bs = as.map f
  | [], [], _ => rfl
  | a :: r, b :: t, h => by
    show f a :: _ = f a :: _
    rw [zip_fst f r t (Nat.succ.inj h)]
theorem zip_snd {α β γ : Type} (f : β → γ) : ∀ (as : List α) (bs : List β), as.length = bs.length → List.zipWith (fun _ b => f b) as bs = bs.map f
  | [], [], _ => rfl
  | a :: r, b :: t, h => by
    show f b :: _ = f b :: _
    rw [zip_snd f r t (Nat.succ.inj h)]
end Vm
namespace L3
open PySem PySem.Spec PyProof.Rows L2
def Iel (K : PySem.W.Frag) (t : Addr) : It := ⟨fun i H => ∃ xs a, SqL K H t xs ∧ xs[i]? = some a,
  fun i H x H' => ∃ T a, x = .ref T ∧ H T = none ∧ H' = upd H T (.tup [.int ((i : Nat) : Int), a]) ∧ ∀ xs, SqL K H t xs → xs[i]? = some a,
  fun i H => ∃ xs, SqL K H t xs ∧ xs.length ≤ i⟩
theorem turn_enumL {P : Program} {w : World} {K : PySem.W.Frag} {es : List Expr} {x1 : Nat} {tpos : Pos} {z c t : Addr} (n1 : c ≠ z) :
    Turn P w K (.Tuple es x1 tpos) (Iel K t) [z, c] z (fun i h => (∃ old, IsEnum h z c ((i : Nat) : Int) old) ∧ h.IsListIter c t i) where
  mem := by simp
  obj := fun i h st b hb => by
    obtain ⟨⟨old, q1⟩, ⟨o1, e1, _, d1⟩⟩ := st
    simp only [List.mem_cons, List.not_mem_nil, or_false] at hb
    rcases hb with rfl | rfl
    · exact ⟨_, q1, fun v u => nomatch u⟩
    · exact ⟨_, e1, fun v u => by rw [d1] at u; cases u⟩
  keep := fun i h h' st kp => by
    obtain ⟨⟨old, q1⟩, q4⟩ := st
    exact ⟨⟨old, kp z (by simp) _ q1⟩, q4.at fun o e => kp c (by simp) o e⟩
  item := by
    intro X hP hw hK hc i pins s σ H E I hf st hg
    subst hP hw hK
    obtain ⟨⟨old, q1⟩, q4⟩ := st
    obtain ⟨xs, a, hx, ex⟩ := hg
    obtain ⟨us, ru, pu, zu⟩ := I.list hx
    obtain ⟨u, eu, ra⟩ := ru.get ex
    refine wpAny_pyNext_enum_item q1 q4 pu.isList (x := u) (by simpa using eu) n1.symm fun g g1 g3 g5 _ kp => ⟨_, rfl, ?_⟩
    refine wpAny_letOwnedTupleGo_enum (s := { s with heap := g, toks := s.toks + 1 }) g1 fun h2 hz2 sb => ?_
    have lt : ∀ {b o}, s.heap.get? b = some o → s.heap.objs.size ≠ b := fun e => Nat.ne_of_gt (Heap.lt_size e)
    have kp2 : ∀ b o, b ∉ [z, c] → s.heap.get? b = some o → h2.get? b = some o := fun b o n e => by
      simp only [List.mem_cons, List.not_mem_nil, or_false, not_or] at n
      exact sb.extBut _ _ n.1 (kp b o n.1 n.2 e)
    have I1 : Inv X pins σ H { s with heap := h2, toks := s.toks + 1 } := turnedL (t' := s.toks + 1) I kp2 hf
    have T2 : h2.get? s.heap.objs.size = some { cls := .type "tuple", data := .seq #[.int i s.toks, u] } := sb.extBut _ _ (lt q1) g5
    have hN : H s.heap.objs.size = none := I.hok.fresh (Nat.le_refl _)
    have I2 : Inv X pins σ (upd H s.heap.objs.size (.tup [.int ((i : Nat) : Int), a])) { s with heap := h2, toks := s.toks + 1 } := inv_track I1 (Heap.get?_none_of_le I.sz) (Nat.ne_of_gt I.lt)
      (fun y b ec => by obtain ⟨_, o, ho, _⟩ := I.cell y b ec; exact Ne.symm (lt ho)) (fun p hp => Ne.symm (lt (I.pin p hp).1)) hN
      ⟨few (by show 2 ≤ _; omega), [.int i s.toks, u], .cons ⟨_, rfl⟩ (.cons ra .nil), ⟨_, T2, rfl, 0, rfl⟩⟩
    refine ⟨.ref s.heap.objs.size, _, I2, rfl, ⟨_, a, rfl, hN, rfl, fun xs' hx' => by rw [I.list_inj hx' hx]; exact ex⟩, ⟨⟨u, ?_⟩, ?_⟩, fun b hb => ?_⟩
    · have e : ((i + 1 : Nat) : Int) = (i : Int) + 1 := by omega
      rw [e]; exact hz2
    · exact g3.extBut sb.extBut n1
    · have ne : b ≠ s.heap.objs.size := by
        simp only [List.mem_cons, List.not_mem_nil, or_false] at hb
        obtain ⟨o1, e1, _⟩ := q4
        rcases hb with rfl | rfl
        · exact Ne.symm (lt q1)
        · exact Ne.symm (lt e1)
      rw [upd_ne ne]; exact (hf b hb).1
  done := by
    intro X hP hw hK hc i pins s σ H E I hf st hg
    subst hP hw hK
    obtain ⟨⟨old, q1⟩, q4⟩ := st
    obtain ⟨xs, hx, he⟩ := hg
    obtain ⟨us, ru, pu, zu⟩ := I.list hx
    have l1 := ru.length
    refine wpAny_pyNext_enum_end (I.ok.hd hc) q1 q4 pu.isList (by simp; omega) fun g kp => ⟨rfl, turnedL (t' := s.toks) I (fun b o n e => ?_) hf⟩
    simp only [List.mem_cons, List.not_mem_nil, or_false, not_or] at n
    exact kp b o n.2 e
  self := fun _ _ _ _ _ st h => by
    obtain ⟨⟨old, q1⟩, _⟩ := st
    exact wpAny_pyIter_enum q1 h
section
variable {X : Cx} {es : List Expr} {x1 : Nat} {tpos : Pos}
def iEnumL (K : PySem.W.Frag) (ta : TA) : TI := fun σ H R => ta σ H fun vs H1 => ∃ t : Addr, vs = [.ref t] ∧ (∃ xs, SqL K H1 t xs) ∧ R (Iel K t) H1
theorem pi_enumL {a : Expr} {ta : TA} {p pos : Pos} (hg : Gl X "enumerate") (hm : X.mg "enumerate" = none) (ha : PA X [a] ta) (hs : starEach [a] X.env = [(false, eval a X.env)] := by rfl) :
    PI X (.Tuple es x1 tpos) (.Call (.Name "enumerate" p) [a] [] pos) (iEnumL X.K ta) := by
  intro pins s σ H R I h
  refine Call_ (ld_blt I hg hm PyProof.Rows.boot_enumerate (PyProof.Rows.callWith_type1 (thn (ha pos pins s σ H _ I h) fun us s1 ⟨vs, H1, I1, r1, q1⟩ => ?_) (by rw [hs]; rfl) (by rfl)))
  obtain ⟨t, e, ⟨xs, hx⟩, q⟩ := q1
  subst e
  obtain ⟨u1, rfl, r1'⟩ := r1.one
  cases r1'
  obtain ⟨us, ru, pu, zu⟩ := I1.list hx
  refine call_enumerate_list pu.isList fun g g1 g4 _ kp => ?_
  refine wpAny_pyIter_enum (s := { s1 with heap := g }) g1 ?_
  refine ⟨_, _, _, Iel X.K t, H1, rfl, I1.kept (t' := s1.toks) kp, turn_enumL (Nat.ne_of_lt (Nat.lt_succ_self _)), ⟨⟨_, g1⟩, g4⟩, fun b hb => ?_, q⟩
  have hb' : s1.heap.objs.size ≤ b := by
    simp only [List.mem_cons, List.not_mem_nil, or_false] at hb
    rcases hb with rfl | rfl
    · exact Nat.le_add_right _ _
    · exact Nat.le_refl _
  have I2 : Inv X _ σ H1 _ := I1.kept (t' := s1.toks) kp
  exact I1.fpOk hb' (I1.hok.fresh hb')
end
theorem for_enumL {K : PySem.W.Frag} {a : Addr} {xs : List V} {g : TG} {tb : TS} {D : Ends} {σ : L2.St} {H : Hp} (Pv : Nat → L2.St → Hp → Prop) (h0 : Pv 0 σ H) (hl : ∀ i σ H, i ≤ xs.length → Pv i σ H → SqL K H a xs)
    (hs : ∀ i x σ H T, xs[i]? = some x → Pv i σ H → H T = none → g (.ref T) σ (upd H T (.tup [.int ((i : Nat) : Int), x])) fun σ2 H2 => tb { D with nx := Pv (i + 1), ct := Pv (i + 1), bk := D.nx } σ2 H2) (hd : ∀ σ H, Pv xs.length σ H → D.nx σ H) :
    ∃ W : Nat → Nat → L2.St → Hp → Prop, (∃ m, W 0 m σ H) ∧ ∀ i m σ H, W i m σ H →
      ((Iel K a).stop i H ∧ D.nx σ H) ∨ ((Iel K a).go i H ∧ ∃ N : L2.St → Hp → Prop, (∀ σ' H', N σ' H' → ∃ m', m' < m ∧ W (i + 1) m' σ' H') ∧ ∀ x H', (Iel K a).yld i H x H' → g x σ H' fun σ2 H2 => tb { D with nx := N, ct := N, bk := D.nx } σ2 H2) := by
  refine ⟨fun i m σ H => m = xs.length - i ∧ i ≤ xs.length ∧ Pv i σ H, ⟨xs.length, by simp, Nat.zero_le _, h0⟩, ?_⟩
  rintro i m σ H ⟨rfl, hi, p⟩
  have q := hl i σ H hi p
  rcases Nat.lt_or_ge i xs.length with hlt | hge
  · refine .inr ⟨⟨xs, xs[i], q, by simp [hlt]⟩, Pv (i + 1), fun σ' H' p' => ⟨xs.length - (i + 1), by omega, rfl, hlt, p'⟩, ?_⟩
    rintro x H' ⟨T, a', rfl, hT, rfl, hx⟩
    exact hs i a' σ H T (hx xs q) p hT
  · have e : i = xs.length := by omega
    subst e
    exact .inl ⟨⟨xs, q, Nat.le_refl _⟩, hd σ H p⟩
end L3
namespace L3
open PySem PySem.Spec PyProof.Rows L2
open AutoSeq1 (wpAny_loadPart')
theorem noFill_tuple_mul : fillsNumberSlot (.type "tuple") "mul" = pure false :=
  PySem.fillsNumberSlot_seq (id := "tuple.__mul__") (r := some (.builtin "tuple.__rmul__")) F.slot_tuple_mul.lookup (by decide +kernel) F.slot_tuple_rmul.lookup (by decide +kernel)
theorem repeat_tuple : seqRepeat? (.type "tuple") = pure (some (.builtin "tuple.__mul__")) := by
  unfold seqRepeat?
  rw [PySem.seqSlot_of (T := "tuple") (name := "__mul__") (id := "tuple.__mul__") F.slot_tuple_mul.lookup (by decide +kernel), PySem.seqSlot_of (T := "tuple") (name := "__rmul__") (id := "tuple.__rmul__") F.slot_tuple_rmul.lookup (by decide +kernel)]
  rfl
theorem rmul_int_tuple (a : Int) (t : Tok) (l : Addr) (o : Obj) (its : Array Value) (k : Nat) (hc : o.cls = .type "tuple") (hd : o.data = .seq its k) :
    Meets (Builtin.«int.__rmul__» ⟨[.int a t, .ref l], []⟩) (fun _ R s => s.heap.get? l = some o ∧ R (.ok (.ret Value.notImplemented)) s) :=
  .of_wp fun prog w A R s h => by
    obtain ⟨hp, g, d, tk, os⟩ := s
    obtain ⟨hl, h⟩ := h
    obtain ⟨oc, od, oda, osl⟩ := o
    cases hc
    cases hd
    have hT : Shared.TypeIs ⟨hp, g, d, tk, os⟩ (.ref l) "tuple" := ⟨_, hl, rfl⟩
    wp_walk using wpAny_loadPart' hl, wpAny_typeOf hT
    exact ⟨_, rfl, h⟩
theorem tuple_mul_new (l : Addr) (o : Obj) (u : Value) (k n : Nat) (t : Tok) (hc : o.cls = .type "tuple") (hd : o.data = .seq #[u] k) (hn : n ≤ 100000) (h1 : n ≠ 1) :
    Meets (Builtin.«tuple.__mul__» ⟨[.ref l, .int (n : Int) t], []⟩) (fun _ R s => s.heap.get? l = some o ∧ R (.ok (.ret (.ref s.heap.objs.size))) { s with heap := s.heap.push { cls := .type "tuple", data := .seq (List.replicate n u).toArray } }) :=
  .of_wp fun prog w A R s h => by
    obtain ⟨hp, g, d, tk, os⟩ := s
    obtain ⟨hl, h⟩ := h
    have hT : Shared.TypeIs ⟨hp, g, d, tk, os⟩ (.ref l) "tuple" := ⟨o, hl, hc⟩
    have e1 : (decide ((n : Int) < -(2 ^ 63)) || decide ((n : Int) ≥ 2 ^ 63)) = false := by
      rw [decide_eq_false (by omega), decide_eq_false (by omega)]; rfl
    wp_walk using wpAny_loadPart' hl, wpAny_typeOf hT
    rw [if_neg (by rw [e1]; exact Bool.false_ne_true)]
    obtain ⟨oc, od, oda, osl⟩ := o
    cases hc
    cases hd
    wp_walk using wpAny_loadPart' hl, wpAny_typeOf hT
    have e2 : (#[u].isEmpty || ((n : Int) == 1)) = false := by
      have : ((n : Int) == 1) = false := beq_eq_false_iff_ne.mpr (by omega)
      rw [this]
      rfl
    rw [if_neg (by rw [e2]; exact Bool.false_ne_true)]
    show wpAny _ _ (if (decide ((n : Int) ≤ 0) || #[u].isEmpty) = true then _ else _) _ _ _
    by_cases h0 : n = 0
    · subst h0
      rw [if_pos (by rfl)]
      unfold Builtin.Tuple.tupleExact
      refine wpAny_bind (wpAny_newObj_type ?_ (by show 0 ≤ sizeLine; exact Nat.zero_le _))
      exact wpAny_pure ⟨_, rfl, h⟩
    · have e3 : (decide ((n : Int) ≤ 0) || #[u].isEmpty) = false := by rw [decide_eq_false (by omega)]; rfl
      rw [if_neg (by rw [e3]; exact Bool.false_ne_true)]
      show wpAny _ _ (if ((#[u].size : Nat) : Int) * (n : Int) > (2 ^ 63 - 1) / 8 then _ else _) _ _ _
      have e4 : ((#[u].size : Nat) : Int) * (n : Int) = (n : Int) := by show (1 : Int) * _ = _; omega
      rw [if_neg (by rw [e4]; omega)]
      show wpAny _ _ (if Builtin.Tuple.tupleTooMany (((#[u].size : Nat) : Int) * (n : Int)) = true then _ else _) _ _ _
      have e5 : Builtin.Tuple.tupleTooMany (((#[u].size : Nat) : Int) * (n : Int)) = false := by
        rw [e4]
        unfold Builtin.Tuple.tupleTooMany
        exact decide_eq_false (by unfold sizeLine; omega)
      rw [if_neg (by rw [e5]; exact Bool.false_ne_true)]
      show wpAny _ _ (Builtin.Tuple.tupleExact (List.foldl (fun x1 x2 => x1 ++ x2) #[] (List.replicate ((n : Int)).toNat #[u])) >>= fun v => ret v) _ _ _
      rw [Int.toNat_natCast, rep_fold]
      have e6 : (#[] ++ (List.replicate n u).toArray : Array Value) = (List.replicate n u).toArray := by simp
      rw [e6]
      unfold Builtin.Tuple.tupleExact
      refine wpAny_bind (wpAny_newObj_type ?_ (by show (List.replicate n u).toArray.size ≤ sizeLine; rw [List.size_toArray, List.length_replicate]; unfold sizeLine; omega))
      exact wpAny_pure ⟨_, rfl, h⟩
theorem tuple_mul_one (l : Addr) (o : Obj) (u : Value) (k : Nat) (t : Tok) (hc : o.cls = .type "tuple") (hd : o.data = .seq #[u] k) :
    Meets (Builtin.«tuple.__mul__» ⟨[.ref l, .int 1 t], []⟩) (fun _ R s => s.heap.get? l = some o ∧ R (.ok (.ret (.ref l))) s) :=
  .of_wp fun prog w A R s h => by
    obtain ⟨hp, g, d, tk, os⟩ := s
    obtain ⟨hl, h⟩ := h
    obtain ⟨oc, od, oda, osl⟩ := o
    cases hc
    cases hd
    have hT : Shared.TypeIs ⟨hp, g, d, tk, os⟩ (.ref l) "tuple" := ⟨_, hl, rfl⟩
    wp_walk using wpAny_loadPart' hl, wpAny_typeOf hT
    exact ⟨_, rfl, h⟩
section
variable {X : Cx}
theorem op_mulT : OpR X (binaryOp .Mult) (fun x y H Q => ∃ (a : Addr) (v : V) (n : Nat), x = .ref a ∧ y = .int ((n : Nat) : Int) ∧ H a = some (.tup [v]) ∧ n ≤ 100000 ∧ ∀ (r : Addr) (H2 : Hp), Same H H2 → H2 r = some (.tup (List.replicate n v)) → Q (.ref r) H2) := by
  intro pins s σ H x y w u Q I rx ry h
  obtain ⟨a, v, n, rfl, rfl, hH, hn, q⟩ := h
  obtain rfl : w = Value.ref a := rx
  obtain ⟨t, rfl⟩ := ry
  obtain ⟨hz, its, r, o, ho, hc, k, hd⟩ := I.hok a _ hH
  obtain ⟨u, rfl, ru⟩ := vals1 r
  have isT : s.TypeIs (.ref a) "tuple" := ⟨o, ho, hc⟩
  refine wpAny_binaryOp_repeat_ref (by decide : (Value.type "tuple" == Value.type "int") = false) isT (fun s' => typeIs_int s' _ t) noFill_tuple_mul F.fills_int_mul F.slot_int_rmul repeat_tuple F.slot_int_index.lookup ?_
  refine call_meets F.slot_int_rmul (typeIs_int s _ t) F.entry_int_rmul (F.args_int_rmul_2 _ _) (rmul_int_tuple _ t a o _ k hc hd) ?_
  refine ⟨ho, rfl, isT, ?_⟩
  by_cases h1 : n = 1
  · subst h1
    exact call_meets F.slot_tuple_mul isT F.entry_tuple_mul (F.args_tuple_mul_2 _ _) (tuple_mul_one a o u k t hc hd) ⟨ho, .ref a, H, I, rfl, q a H (fun _ _ e => e) hH⟩
  · refine call_meets F.slot_tuple_mul isT F.entry_tuple_mul (F.args_tuple_mul_2 _ _) (tuple_mul_new a o u k n t hc hd hn h1) ⟨ho, .ref s.heap.objs.size, upd H s.heap.objs.size (.tup (List.replicate n v)), ?_, rfl, ?_⟩
    · refine I.laid (t' := s.toks) (fun b u e => Heap.get?_push_of_some _ e) (Nat.le_refl _) ?_
      exact ⟨by rw [List.length_replicate]; show n ≤ sizeLine; unfold sizeLine; omega, List.replicate n u, vals_rep ru n, IsTup.new _ _⟩
    · exact q _ _ (same_upd (I.hok.fresh (Nat.le_refl _))) upd_same
end
end L3
namespace Vm
open PySem PySem.Spec PyProof.Rows L2 L3
def colF (es : List V) (e0 : V) (S : Nat → Bool) (m : Nat) : List V := (List.range m).map fun r => if S r = true then es.getD r .non else e0
theorem colF_len (es : List V) (e0 : V) (S : Nat → Bool) (m : Nat) : (colF es e0 S m).length = m := by unfold colF; rw [List.length_map, List.length_range]
theorem colF_at {es : List V} {e0 : V} {S : Nat → Bool} {m r : Nat} (h : r < m) : (colF es e0 S m)[r]? = some (if S r = true then es.getD r .non else e0) := by
  unfold colF
  rw [List.getElem?_map, List.getElem?_range h]
  rfl
theorem colF_none (es : List V) (e0 : V) (m : Nat) : colF es e0 (fun _ => false) m = List.replicate m e0 := by
  unfold colF
  rw [List.eq_replicate_iff]
  refine ⟨by rw [List.length_map, List.length_range], fun x hx => ?_⟩
  obtain ⟨r, _, rfl⟩ := List.mem_map.mp hx
  rfl
theorem colF_set {es : List V} {e0 x : V} {S : Nat → Bool} {m k : Nat} (hk : k < m) (hx : es.getD k .non = x) : (colF es e0 S m).set k x = colF es e0 (fun r => S r || r == k) m := by
  apply List.ext_getElem?
  intro r
  by_cases hr : r < m
  · rw [colF_at hr, List.getElem?_set]
    by_cases c : k = r
    · subst c
      rw [if_pos rfl, if_pos (by rw [colF_len]; exact hk)]
      have : (S k || k == k) = true := by rw [beq_self_eq_true, Bool.or_true]
      rw [if_pos this, hx]
    · have : (S r || r == k) = S r := by rw [beq_eq_false_iff_ne.mpr (Ne.symm c), Bool.or_false]
      rw [if_neg c, colF_at hr, this]
  · rw [List.getElem?_eq_none (by rw [List.length_set, colF_len]; omega), List.getElem?_eq_none (by rw [colF_len]; omega)]
theorem entStep_keep {e0 x y : V} {us : List V} (h : y ∈ us) : y ∈ entStep e0 us x := by
  unfold entStep
  split
  · exact h
  · split
    · exact h
    · exact List.mem_append_left _ h
theorem ent_all {es : List V} : ∀ i : Nat, i ≤ es.length → ∀ r, r < i → es.getD r .non = es.getD 0 .non ∨ es.getD r .non ∈ entTo es i
  | 0, _, r, h => absurd h (Nat.not_lt_zero _)
  | i + 1, hi, r, h => by
    have e := List.getElem?_eq_getElem (l := es) (i := i) (by omega)
    rw [entTo_step e]
    by_cases c : r = i
    · subst c
      have eg : es.getD r .non = es[r] := by rw [List.getD_eq_getElem?_getD, e]; rfl
      rw [eg]
      by_cases c0 : es[r] = es.getD 0 .non
      · exact .inl c0
      · refine .inr ?_
        unfold entStep
        rw [if_neg c0]
        split
        · assumption
        · exact List.mem_append_right _ (List.mem_singleton.mpr rfl)
    · rcases ent_all (es := es) i (by omega) r (by omega) with h | h
      · exact .inl h
      · exact .inr (entStep_keep h)
theorem colF_done {es : List V} {S : Nat → Bool} (h : ∀ r, r < es.length → (S r = true ↔ es.getD r .non ∈ entTo es es.length)) : colF es (es.getD 0 .non) S es.length = es := by
  apply List.ext_getElem?
  intro r
  by_cases hr : r < es.length
  · rw [colF_at hr]
    have eg : es[r]? = some (es.getD r .non) := by rw [List.getD_eq_getElem?_getD, List.getElem?_eq_getElem hr]; rfl
    rw [eg]
    by_cases c : S r = true
    · rw [if_pos c]
    · rw [if_neg c]
      rcases ent_all (es := es) es.length (Nat.le_refl _) r hr with h1 | h1
      · rw [h1]
      · exact absurd ((h r hr).mpr h1) c
  · rw [List.getElem?_eq_none (by rw [colF_len]; omega), List.getElem?_eq_none (by omega)]
theorem rowsTo_mem {es : List V} {x : V} {n r : Nat} : r ∈ rowsTo es x n ↔ r < n ∧ es.getD r .non = x := by
  unfold rowsTo
  rw [List.mem_filter, List.mem_range, decide_eq_true_iff]
theorem const_of {es : List V} (h : rdgsOf es = []) : es = List.replicate es.length (es.getD 0 .non) := by
  have h0 : entTo es es.length = [] := List.map_eq_nil_iff.mp h
  rw [List.eq_replicate_iff]
  refine ⟨rfl, fun x hx => ?_⟩
  obtain ⟨r, hr, rfl⟩ := List.mem_iff_getElem.mp hx
  rcases ent_all (es := es) es.length (Nat.le_refl _) r hr with h1 | h1
  · rw [← h1, List.getD_eq_getElem?_getD, List.getElem?_eq_getElem hr]
    rfl
  · rw [h0] at h1
    cases h1
theorem notes_mem {cs : List (List V)} {n : Nat} {p : Nat × List Rdg} (h : p ∈ notesTo cs n) : p.1 < n ∧ p.2 = rdgsOf (cs.getD p.1 []) ∧ p.2 ≠ [] := by
  unfold notesTo at h
  obtain ⟨h1, h2⟩ := List.mem_filter.mp h
  obtain ⟨i, hi, rfl⟩ := List.mem_map.mp h1
  refine ⟨List.mem_range.mp hi, rfl, fun z => ?_⟩
  have h2 : (!(rdgsOf (cs.getD i [])).isEmpty) = true := h2
  rw [show rdgsOf (cs.getD i []) = [] from z] at h2
  cases h2
theorem notes_all {cs : List (List V)} {n i : Nat} (hi : i < n) (h : rdgsOf (cs.getD i []) ≠ []) : (i, rdgsOf (cs.getD i [])) ∈ notesTo cs n := by
  unfold notesTo
  refine List.mem_filter.mpr ⟨List.mem_map.mpr ⟨i, List.mem_range.mpr hi, rfl⟩, ?_⟩
  cases e : rdgsOf (cs.getD i []) with
  | nil => exact absurd e h
  | cons a r => rfl
end Vm
namespace PySem
open PyProof.Rows
section
variable {prog : Program} {w : World} {A : Around} {E : Value → Shared → Prop} {s : Shared}
theorem sorted_tuple {l : Addr} {o : Obj} {n : Nat} {vs : List Value} {ns : List Int} {Q : Value → Shared → Prop} (ho : s.heap.get? l = some o) (hc : o.cls = .type "tuple") (hd : o.data = .seq vs.toArray n) (hI : IntsAre vs ns) (h64 : vs.length < 64)
    (h : ∀ (h1 : Heap) (out : Array Value) (ns' : List Int), (∀ b o', s.heap.get? b = some o' → h1.get? b = some o') → IntsAre out.toList ns' → ns'.Perm ns → Q (.ref h1.objs.size) { s with heap := sortedHeap (h1.push (seqObj "list" vs.toArray 0)) h1.objs.size vs out }) :
    wpAny (model prog w) A (call (.builtin "sorted") [.ref l]) Q E s := by
  refine Calls.call_function_entry kind_sorted plain_sorted entry_sorted (args_sorted1 _) ?_
  unfold Builtin.«sorted»
  refine wpAny_bind (m := checkCount "sorted" 1 1 _) (wpAny_pure ?_)
  refine wpAny_bind (wpAny_collect_seq l (.inr rfl) ho hc hd (fun h1 k1 => ?_) (by rw [List.size_toArray, sizeLine_eq]; omega))
  rw [show vs.toArray.toList = vs from rfl]
  refine wpAny_bind (wpAny_newList ?_)
  have hoL : (h1.push (seqObj "list" vs.toArray 0)).get? h1.objs.size = some (seqObj "list" vs.toArray 0) := Heap.get?_push_size _ rfl
  show wpAny _ _ _ _ _ { s with heap := h1.push (seqObj "list" vs.toArray 0) }
  refine wpAny_bind (wpAny_holding (wpAny_call_entry slot_list_sort ⟨_, hoL, rfl⟩ entry_list_sort (list_sort_tree hoL hI h64 fun out ns' a1 a2 a3 => ⟨_, rfl, ?_⟩) (args_list_sort _)))
  exact wpAny_pure ⟨_, rfl, h h1 out ns' k1 a1 a2⟩
namespace F
theorem norev_tuple : typeLookup (.type "tuple") "__reversed__" = pure none := by rw [typeLookup_type, builtinLookup_eq_fast]; kernel_rfl
theorem slot_reversed_init : Slot "reversed" "__init__" "object.__init__" :=
  .of (owner := "object") (n := "__init__") (by rw [typeLookup_type, builtinLookup_eq_fast]; kernel_rfl) (by decide +kernel) (by decide +kernel) (by decide +kernel)
    (by first | exact .inl (by decide +kernel) | exact .inr (by decide +kernel)) (by rw [isSubtype_type]; kernel_rfl)
theorem called_reversed : TypeCalled "reversed" "reversed.__new__" "object.__init__" :=
  ⟨by decide +kernel, by decide +kernel, ⟨_, _, mro_reversed⟩, madeBy_type mro_reversed lookup_reversed_new (by decide +kernel), by decide +kernel, by rw [isSubtype_type]; kernel_rfl, slot_reversed_init⟩
end F
def revT (l : Addr) (i : Int) : Obj := { cls := .type "reversed", data := .fields #[.ref l, rawInt i] }
theorem code_reversed_tuple {l : Addr} {items : Array Value} {Q₁ : Value → Shared → Prop} (ht : IsTup s.heap l items) (hfit : (items.size : Int) < 2 ^ 63)
    (h : ∀ tk, Q₁ (.ref s.heap.objs.size) { s with heap := s.heap.push (revT l ((items.size : Int) - 1)), toks := tk }) :
    codeAny (model prog w) A (.call (.builtin "reversed.__new__") ⟨[.type "reversed", .ref l], []⟩) (wants Q₁ E) s := by
  have hT : s.TypeIs (.ref l) "tuple" := ht.typeIs
  refine codeAny_of_tree ?_
  show wpAny _ A.in1 (do checkBuiltinCall "reversed.__new__" ⟨[.type "reversed", .ref l], []⟩; again (.builtin "reversed.__new__" ⟨[.type "reversed", .ref l], []⟩)) _ _ s
  refine wpAny_bind (wpAny_of_eq (F.newCall_reversed_1 _) (wpAny_pure ⟨plainId_quiet F.plain_reversed_new _, codeAny_builtin F.entry_reversed_new ?_⟩))
  rw [Around.under_plainId F.plain_reversed_new _]
  unfold Builtin.«reversed.__new__»
  refine wpAny_bind (wpAny_of_eq (newClass_reversed _) ?_)
  try dsimp only
  refine wpAny_bind (wpAny_of_eq (a := ()) (by first | rfl | kernel_rfl) ?_)
  refine wpAny_bind (wpAny_of_eq (a := ()) (by first | rfl | kernel_rfl) ?_)
  try dsimp only
  refine wpAny_bind (wpAny_specialOf hT F.norev_tuple ?_)
  try dsimp only
  refine wpAny_bind ?_
  wp_delta
  refine wpAny_bind (wpAny_isInstance (T := "tuple") (b := false) hT (by rw [isSubtype_type]; kernel_rfl) ?_)
  try dsimp only
  rw [if_neg Bool.false_ne_true]
  refine wpAny_bind (wpAny_specialOf hT slot_tuple_getitem.lookup ?_)
  try dsimp only
  rw [if_pos (by decide +kernel)]
  refine wpAny_pure ?_
  rw [if_neg (by decide)]
  refine wpAny_bind (len_tuple ht hfit ?_)
  refine wpAny_bind (wpAny_of_eq (a := some ((items.size : Nat) : Int)) (by rfl) ?_)
  try dsimp only
  refine wpAny_bind ?_
  unfold Builtin.SmallTypes.newRecord
  refine wpAny_newObj_type ?_ (by size_fits)
  exact wpAny_pure (h _)
theorem call_reversed_tuple {l : Addr} {items : Array Value} {Q : Value → Shared → Prop} (ht : IsTup s.heap l items) (hfit : (items.size : Int) < 2 ^ 63)
    (h : ∀ tk, Q (.ref s.heap.objs.size) { s with heap := s.heap.push (revT l ((items.size : Int) - 1)), toks := tk }) : wpAny (model prog w) A (call (.type "reversed") [.ref l]) Q E s := by
  refine callType_codes (Q₁ := fun obj s₁ => s₁.TypeIs obj "reversed" ∧ Q obj s₁) F.called_reversed (F.typeCall_reversed_1 _) F.entry_object_init
    (code_reversed_tuple ht hfit fun tk => ⟨⟨_, Heap.get?_push_size _ rfl, rfl⟩, h tk⟩) fun obj s₁ h₁ => ?_
  exact ⟨h₁.1, F.args_object_init_2 obj _, object_init_meets F.called_reversed.init.lookup F.called_reversed.made (by decide) prog w A.in1 _ s₁ ⟨h₁.1, rfl, h₁.2⟩⟩
def Heap.IsRevT (h : Heap) (a l : Addr) (i : Int) : Prop := ∃ o, h.get? a = some o ∧ o.cls = .type "reversed" ∧ o.data = .fields #[.ref l, rawInt i]
namespace F
theorem slot_rev_next : Slot "reversed" "__next__" "reversed.__next__" :=
  .of (owner := "reversed") (n := "__next__") (by rw [typeLookup_type, builtinLookup_eq_fast]; kernel_rfl) (by decide +kernel) (by decide +kernel) (by decide +kernel)
    (by first | exact .inl (by decide +kernel) | exact .inr (by decide +kernel)) (by rw [isSubtype_type]; kernel_rfl)
theorem entry_rev_next : entryFor table "reversed.__next__" = some Builtin.«reversed.__next__» := entryFor_of_tree (by kernel_rfl)
theorem args_rev_next_1 (a : Value) : argsOk "reversed.__next__" ⟨[a], []⟩ := by unfold argsOk; kernel_rfl
theorem slot_rev_iter : Slot "reversed" "__iter__" "reversed.__iter__" :=
  .of (owner := "reversed") (n := "__iter__") (by rw [typeLookup_type, builtinLookup_eq_fast]; kernel_rfl) (by decide +kernel) (by decide +kernel) (by decide +kernel)
    (by first | exact .inl (by decide +kernel) | exact .inr (by decide +kernel)) (by rw [isSubtype_type]; kernel_rfl)
theorem args_rev_iter_1 (a : Value) : argsOk "reversed.__iter__" ⟨[a], []⟩ := by unfold argsOk; kernel_rfl
theorem entry_rev_iter : entryFor table "reversed.__iter__" = some Builtin.«dict_keyiterator.__iter__» :=
  entryFor_alias (id' := "dict_keyiterator.__iter__") (by kernel_rfl) (by first | rfl | decide +kernel | (unfold String.splitOn; simp +decide [String.splitOnAux])) (by decide +kernel) (by kernel_rfl)
theorem nolen_rev : typeLookup (.type "reversed") "__len__" = pure none := by rw [typeLookup_type, builtinLookup_eq_fast]; kernel_rfl
theorem hint_rev : typeLookup (.type "reversed") "__length_hint__" = pure (some (.builtin "reversed.__length_hint__")) := by rw [typeLookup_type, builtinLookup_eq_fast]; kernel_rfl
end F
theorem pyNext_revT_item {it l : Addr} {i : Nat} {items : Array Value} {x : Value} {Q : Option Value → Shared → Prop} (hit : s.heap.IsRevT it l (i : Int)) (hl : IsTup s.heap l items) (hfit : (items.size : Int) < 2 ^ 63) (hx : items[i]? = some x)
    (hQ : ∀ h' tk, h'.IsRevT it l ((i : Int) - 1) → Heap.SameBut it s.heap h' → Q (some x) { s with heap := h', toks := tk }) : wpAny (model prog w) A (pyNext (.ref it)) Q E s := by
  obtain ⟨o, ho, hc, hd⟩ := id hit
  have hTi : s.TypeIs (.ref it) "reversed" := ⟨o, ho, hc⟩
  unfold pyNext
  refine wpAny_bind (wpAny_attempt (wpAny_callSpecial?_slot (name := Str.ofString "__next__") hTi F.slot_rev_next
    (wpAny_call_entry F.slot_rev_next hTi F.entry_rev_next ?_ (F.args_rev_next_1 _))))
  unfold Builtin.«reversed.__next__»
  refine wpAny_bind (wpAny_of_eq (a := (Value.ref it, [])) rfl ?_)
  try dsimp only
  refine wpAny_bind (wpAny_field ho hd (x := .ref l) rfl ?_)
  refine wpAny_bind (wpAny_field ho hd (x := rawInt (i : Int)) rfl ?_)
  show wpAny _ _ (if (i : Int) < 0 then _ else _) _ _ s
  rw [if_neg (by omega)]
  refine wpAny_bind (wpAny_specialOf hl.typeIs slot_tuple_getitem.lookup ?_)
  rw [if_neg (by decide)]
  refine wpAny_bind (wpAny_mkInt ?_)
  have hi : i < items.size := (Array.getElem?_eq_some_iff.mp hx).1
  refine wpAny_bind (wpAny_attempt (getItem_tuple (k := (i : Int)) (j := i) hl (by omega) (by omega) (by unfold seqIndex?; simp; omega) hx ?_))
  show wpAny _ _ (field (Value.ref it) 1 >>= _) _ _ _
  refine wpAny_bind (wpAny_field ho hd (x := rawInt (i : Int)) rfl ?_)
  show wpAny _ _ (setField (Value.ref it) 1 (rawInt ((i : Int) - 1)) >>= fun _ => ret x) _ _ _
  refine wpAny_bind (wpAny_setField ho hd (by simp) ?_)
  refine wpAny_pure ⟨x, rfl, wpAny_pure (hQ _ _ ?_ (Heap.SameBut.update ..))⟩
  exact ⟨_, Heap.get?_update_self _ ho (Obj.isFreed_of_fields (Obj.data_mapFields hd _)), (Obj.cls_mapFields ..).trans hc, by
    rw [Obj.data_mapFields hd]; simp⟩
theorem pyNext_revT_end {it l : Addr} {Q : Option Value → Shared → Prop} (hh : A.handled = none) (hit : s.heap.IsRevT it l (-1))
    (hQ : ∀ h', Heap.ExtBut it s.heap h' → Q none { s with heap := h' }) : wpAny (model prog w) A (pyNext (.ref it)) Q E s := by
  obtain ⟨o, ho, hc, hd⟩ := id hit
  have hTi : s.TypeIs (.ref it) "reversed" := ⟨o, ho, hc⟩
  unfold pyNext
  refine wpAny_bind (wpAny_attempt (wpAny_callSpecial?_slot (name := Str.ofString "__next__") hTi F.slot_rev_next
    (wpAny_call_entry F.slot_rev_next hTi F.entry_rev_next ?_ (F.args_rev_next_1 _))))
  unfold Builtin.«reversed.__next__»
  refine wpAny_bind (wpAny_of_eq (a := (Value.ref it, [])) rfl ?_)
  try dsimp only
  refine wpAny_bind (wpAny_field ho hd (x := .ref l) rfl ?_)
  refine wpAny_bind (wpAny_field ho hd (x := rawInt (-1)) rfl ?_)
  show wpAny _ _ (if (-1 : Int) < 0 then _ else _) _ _ s
  rw [if_pos (by decide)]
  refine wpAny_bind (wpAny_rule ?_)
  refine wpAny_bind ?_
  wp_delta
  refine wpAny_bind (wpAny_setField ho hd (by simp) ?_)
  refine wpAny_setField (Heap.get?_update_self _ ho (Obj.isFreed_of_fields (Obj.data_mapFields hd _))) (Obj.data_mapFields hd _) (by simp) ?_
  refine wpAny_bind ?_
  unfold Builtin.SmallTypes.stopIteration
  refine wpAny_bind ?_
  simp only [newExc, newTuple]
  refine wpAny_bind (wpAny_newObj_type ?_ (by size_fits))
  refine wpAny_bind (m := firstArgMember _ _) (wpAny_of_eq (a := Value.none) (by first | rfl | (simp only [firstArgMember]; rfl)) ?_)
  refine wpAny_newObj_type ?_ (by size_fits)
  simp only [raiseNew]
  refine wpAny_bind (wpAny_handled ?_)
  rw [show A.in1.handled = none from hh]
  refine wpAny_bind (wpAny_pure (wpAny_throw ?_))
  refine wpAny_bind (wpAny_isInstance (T := "StopIteration") (b := true) ⟨_, Heap.get?_push_size _ rfl, rfl⟩ isSubtype_stop ?_)
  refine wpAny_pure (hQ _ ?_)
  have e1 : Heap.ExtBut it s.heap ((s.heap.update it (Obj.mapFields fun vs => vs.setIfInBounds 1 (rawInt (-1)))).update it (Obj.mapFields fun vs => vs.setIfInBounds 0 Value.none)) := fun b o' hb e => by
    rw [Heap.get?_update_other _ _ (Ne.symm hb), Heap.get?_update_other _ _ (Ne.symm hb)]
    exact e
  exact (e1.push _).push _
theorem pyIter_revT {it l : Addr} {i : Int} {Q : Value → Shared → Prop} (hit : s.heap.IsRevT it l i) (h : Q (.ref it) s) : wpAny (model prog w) A (pyIter (.ref it)) Q E s := by
  obtain ⟨o, ho, hc, hd⟩ := id hit
  have hTi : s.TypeIs (.ref it) "reversed" := ⟨o, ho, hc⟩
  refine wpAny_pyIter_slot hTi F.slot_rev_iter (wpAny_call_entry F.slot_rev_iter hTi F.entry_rev_iter ?_ (F.args_rev_iter_1 _))
  show wpAny _ _ (ret (.ref it)) _ _ s
  exact wpAny_pure ⟨_, rfl, "reversed", _, hTi, F.slot_rev_next.lookup, h⟩
end
theorem Heap.IsRevT.at {h h' : Heap} {a l : Addr} {i : Int} (x : h.IsRevT a l i) (e : ∀ o, h.get? a = some o → h'.get? a = some o) : h'.IsRevT a l i := let ⟨o, ho, r⟩ := x; ⟨o, e _ ho, r⟩
theorem tup_at {h h' : Heap} {l : Addr} {items : Array Value} (x : IsTup h l items) (e : ∀ o, h.get? l = some o → h'.get? l = some o) : IsTup h' l items := let ⟨o, ho, r⟩ := x; ⟨o, e _ ho, r⟩
theorem Walks.tupRev {prog : Program} {w : World} {A : Around} (hh : A.handled = none) (I l : Addr) (hne : l ≠ I) (items : Array Value) (hfit : (items.size : Int) < 2 ^ 63) :
    Walks prog w A I [I, l] [I] items.size (fun i v => items[items.size - 1 - i]? = some v) (fun i h => i ≤ items.size ∧ h.IsRevT I l ((items.size : Int) - 1 - (i : Int)) ∧ IsTup h l items) where
  sub := fun b hb => by simp at hb; simp [hb]
  frame := fun _ _ _ x hk => ⟨x.1, x.2.1.at fun o e => hk I (by simp) o e, tup_at x.2.2 fun o e => hk l (by simp) o e⟩
  item := fun i s Q E hi x hQ => by
    have e : (items.size : Int) - 1 - (i : Int) = ((items.size - 1 - i : Nat) : Int) := by omega
    have hit := x.2.1
    rw [e] at hit
    have hx : items[items.size - 1 - i]? = some (items[items.size - 1 - i]'(by omega)) := Array.getElem?_eq_getElem (by omega)
    refine pyNext_revT_item hit x.2.2 hfit hx fun h' tk hit' hs' => ?_
    have e2 : ((items.size - 1 - i : Nat) : Int) - 1 = (items.size : Int) - 1 - ((i + 1 : Nat) : Int) := by omega
    rw [e2] at hit'
    exact hQ _ h' tk hx ⟨hi, hit', tup_at x.2.2 fun o eo => (hs'.2 l hne).trans eo⟩ fun b o hb eo => hs'.extBut b o (fun h => hb (by simp [h])) eo
  done := fun s Q E x hQ => by
    have e : (items.size : Int) - 1 - (items.size : Int) = -1 := by omega
    have hit := x.2.1
    rw [e] at hit
    exact pyNext_revT_end hh hit fun h' he' => hQ h' s.toks fun b o hb eo => he' b o (fun h => hb (by simp [h])) eo
  self := fun _ _ _ _ x hQ => pyIter_revT x.2.1 hQ
namespace F
theorem slot_rev_hint : Slot "reversed" "__length_hint__" "reversed.__length_hint__" :=
  .of (owner := "reversed") (n := "__length_hint__") (by rw [typeLookup_type, builtinLookup_eq_fast]; kernel_rfl) (by decide +kernel) (by decide +kernel) (by decide +kernel)
    (by first | exact .inl (by decide +kernel) | exact .inr (by decide +kernel)) (by rw [isSubtype_type]; kernel_rfl)
theorem entry_rev_hint : entryFor table "reversed.__length_hint__" = some Builtin.«reversed.__length_hint__» := entryFor_of_tree (by kernel_rfl)
theorem args_rev_hint_1 (a : Value) : argsOk "reversed.__length_hint__" ⟨[a], []⟩ := by unfold argsOk; kernel_rfl
end F
section
variable {prog : Program} {w : World} {A : Around} {E : Value → Shared → Prop} {s : Shared}
theorem call_rev_hint {I l : Addr} {items : Array Value} {Q : Value → Shared → Prop} (hit : s.heap.IsRevT I l ((items.size : Int) - 1)) (ht : IsTup s.heap l items) (hfit : (items.size : Int) < 2 ^ 63)
    (h : ∀ tk t, Q (.int items.size t) { s with toks := tk }) : wpAny (model prog w) A (call (.builtin "reversed.__length_hint__") [.ref I]) Q E s := by
  obtain ⟨o, ho, hc, hd⟩ := id hit
  have hTi : s.TypeIs (.ref I) "reversed" := ⟨o, ho, hc⟩
  refine wpAny_call_entry F.slot_rev_hint hTi F.entry_rev_hint ?_ (F.args_rev_hint_1 _)
  unfold Builtin.«reversed.__length_hint__»
  refine wpAny_bind (wpAny_of_eq (a := Value.ref I) rfl ?_)
  refine wpAny_bind (wpAny_field ho hd (x := .ref l) rfl ?_)
  show wpAny _ _ (if (Value.ref l == Value.none) = true then _ else _) _ _ _
  rw [if_neg (show ¬ ((Value.ref l == Value.none) = true) by simp)]
  refine wpAny_bind (len_tuple ht hfit ?_)
  refine wpAny_bind (wpAny_of_eq (a := some ((items.size : Nat) : Int)) (by rfl) ?_)
  try dsimp only
  refine wpAny_bind (wpAny_field ho hd (x := rawInt ((items.size : Int) - 1)) rfl ?_)
  show wpAny _ _ (if ((items.size : Nat) : Int) < (items.size : Int) - 1 + 1 then _ else _) _ _ _
  rw [if_neg (by omega)]
  refine wpAny_bind (wpAny_mkInt (wpAny_pure ⟨_, rfl, ?_⟩))
  rw [show ((items.size : Int) - 1 + 1) = (items.size : Int) by omega]
  exact h _ _
theorem hint_revT {I l : Addr} {items : Array Value} {Q : Bool → Shared → Prop} (hit : s.heap.IsRevT I l ((items.size : Int) - 1)) (ht : IsTup s.heap l items) (hsz : items.size ≤ sizeLine)
    (h : ∀ tk, Q (((items.size : Nat) : Int) != 0) { s with toks := tk }) : wpAny (model prog w) A (Builtin.List.listLengthHint (.ref I)) Q E s := by
  obtain ⟨o, ho, hc, hd⟩ := id hit
  have hTi : s.TypeIs (.ref I) "reversed" := ⟨o, ho, hc⟩
  have hfit : (items.size : Int) < 2 ^ 63 := by rw [sizeLine_eq] at hsz; omega
  unfold Builtin.List.listLengthHint
  refine wpAny_bind (wpAny_specialOf hTi F.nolen_rev ?_)
  show wpAny _ A (specialOf (Value.ref I) (Str.ofString "__length_hint__") >>= _) _ _ _
  refine wpAny_bind (wpAny_specialOf hTi F.hint_rev ?_)
  first
    | (generalize hid : ("reversed.__length_hint__" : String) = id0; (fail_if_success (clear hid id0)); wp_delta; rw [show splitId id0 = some ("reversed", "__length_hint__") from by subst hid; decide +kernel]; subst hid)
    | skip
  refine wpAny_bind (wpAny_isInstance (b := true) hTi (by rw [isSubtype_type]; kernel_rfl) ?_)
  rw [if_neg (show ¬ ((!true) = true) from Bool.false_ne_true)]
  dsimp only
  rw [if_neg (by decide +kernel)]
  refine wpAny_bind (wpAny_rule ?_)
  refine wpAny_bind (wpAny_of_eq (F.slot_rev_hint.bind _) ?_)
  dsimp only
  refine wpAny_bind (wpAny_attempt (call_rev_hint hit ht hfit fun tk t => ?_))
  have ea : asInt? (Value.int ((items.size : Nat) : Int) t) = pure (some ((items.size : Nat) : Int)) := rfl
  show wpAny _ _ (asInt? (Value.int ((items.size : Nat) : Int) t) >>= _) _ _ _
  rw [ea, pure_bind]
  dsimp only
  rw [if_neg (by
    unfold Builtin.List.listFitsIndex
    rw [decide_eq_true (show -(2 ^ 63 : Int) ≤ ((items.size : Nat) : Int) by omega), decide_eq_true hfit]
    decide), if_neg (by omega), if_neg (by
    unfold Builtin.List.listTooLong
    rw [decide_eq_false (by rw [Int.toNat_natCast]; omega)]
    decide)]
  exact wpAny_pure (h _)
theorem collect_revT {I l : Addr} {items : Array Value} {Q : List Value → Shared → Prop} (hh : A.handled = none) (hit : s.heap.IsRevT I l ((items.size : Int) - 1)) (ht : IsTup s.heap l items) (hne : l ≠ I) (hsz : items.size ≤ sizeLine)
    (hQ : ∀ (h' : Heap) (tk : Nat), (∀ b o, b ≠ I → s.heap.get? b = some o → h'.get? b = some o) → Q items.toList.reverse { s with heap := h', toks := tk }) : wpAny (model prog w) A (collect (.ref I)) Q E s := by
  obtain ⟨o, ho, hc, hd⟩ := id hit
  have hTi : s.TypeIs (.ref I) "reversed" := ⟨o, ho, hc⟩
  have hfit : (items.size : Int) < 2 ^ 63 := by rw [sizeLine_eq] at hsz; omega
  have hlI : I < s.heap.objs.size := Heap.lt_size ho
  have hll : l < s.heap.objs.size := by obtain ⟨ol, hol, _⟩ := ht; exact Heap.lt_size hol
  have hSI : s.heap.objs.size ≠ I := fun e => absurd hlI (by rw [e]; exact Nat.lt_irrefl _)
  have hSl : s.heap.objs.size ≠ l := fun e => absurd hll (by rw [e]; exact Nat.lt_irrefl _)
  have hSf : s.heap.objs.size ∉ [I, l] := by simp [hSI, hSl]
  unfold collect
  refine wpAny_bind (wpAny_runValue (codeAny_builtin F.entry_proto_collect ?_))
  rw [Around.under_plainId F.plain_proto_collect _]
  show wpAny _ A.in1 (newList [] >>= fun l => again (.builtin "list.__iadd__" ⟨[l, .ref I], []⟩)) _ _ s
  refine wpAny_bind (wpAny_newObj_type ?_)
  refine wpAny_pure ⟨plainId_quiet F.plain_list_iadd _, codeAny_builtin F.entry_list_iadd ?_⟩
  rw [Around.under_plainId F.plain_list_iadd _]
  have k1 : ∀ b o, s.heap.get? b = some o → (s.heap.push { cls := .type "list", data := .seq ([] : List Value).toArray }).get? b = some o := fun b o e => Heap.get?_push_of_some _ e
  have hS₁ : (s.heap.push { cls := .type "list", data := .seq ([] : List Value).toArray }).get? s.heap.objs.size = some { cls := .type "list", data := .seq ([] : List Value).toArray } := Heap.get?_push_size _ rfl
  have h1 : Builtin.List.listSameRef (.ref s.heap.objs.size) (.ref I) = false := by simp [Builtin.List.listSameRef, hSI]
  show wpAny _ A.in1 (Builtin.List.listExtendWith (.ref s.heap.objs.size) (.ref I) (.ref s.heap.objs.size)) _ _ _
  unfold Builtin.List.listExtendWith
  have hT₁ : Shared.TypeIs { s with heap := s.heap.push { cls := .type "list", data := .seq ([] : List Value).toArray } } (.ref I) "reversed" := ⟨o, k1 _ _ ho, hc⟩
  have hit₁ := hit.at (fun o e => k1 _ o e)
  have ht₁ := tup_at ht (fun o e => k1 _ o e)
  refine wpAny_bind (wpAny_typeOf hT₁ ?_)
  rw [if_neg (by rw [h1]; decide)]
  refine wpAny_bind (pyIter_revT hit₁ ?_)
  refine wpAny_bind (wpAny_holding (hint_revT hit₁ ht₁ hsz fun tk => ?_))
  have fin : ∀ (h2 : Heap) (c2 : Nat) (tk : Nat) (R : Result → Shared → Prop), (∀ b o, b ≠ s.heap.objs.size → (s.heap.push { cls := .type "list", data := .seq ([] : List Value).toArray }).get? b = some o → h2.get? b = some o) → h2.get? s.heap.objs.size = some { cls := .type "list", dict := none, data := .seq #[] c2, slots := #[] } →
      (∀ (s' : Shared) (acc : Array Value) (c' : Nat), Moved [s.heap.objs.size, I] (fun a b => b = a) { s with heap := h2, toks := tk } s' → s'.heap.get? s.heap.objs.size = some { cls := .type "list", dict := none, data := .seq acc c', slots := #[] } → ItemsOf (fun i v => items[items.size - 1 - i]? = some v) acc items.size → R (.ok (.ret (.ref s.heap.objs.size))) s') →
      codeAny (model prog w) A (.builtin "list.extend.loop" ⟨[.ref s.heap.objs.size, .ref I, .ref s.heap.objs.size], []⟩) R { s with heap := h2, toks := tk } := fun h2 c2 tk R k2 hS2 hR => by
    have W := (Walks.tupRev (prog := prog) (w := w) (A := A.in1) hh I l hne items hfit).toS
    refine codeAny_extend_loopS W hsz _ hSf _ items.size 0 _ _ _ rfl (Nat.zero_le _) ⟨Nat.zero_le _, ?_, ?_⟩ hS2 (ItemsOf.nil _) hR
    · have e : (items.size : Int) - 1 - ((0 : Nat) : Int) = (items.size : Int) - 1 := by omega
      rw [e]
      exact hit₁.at fun o e => k2 I o (Ne.symm hSI) e
    · exact tup_at ht₁ fun o e => k2 l o (Ne.symm hSl) e
  have out : ∀ (h2 : Heap) (tk : Nat), (∀ b o, b ≠ s.heap.objs.size → (s.heap.push { cls := .type "list", data := .seq ([] : List Value).toArray }).get? b = some o → h2.get? b = some o) → ∀ (s' : Shared) (acc : Array Value), Moved [s.heap.objs.size, I] (fun a b => b = a) { s with heap := h2, toks := tk } s' → ItemsOf (fun i v => items[items.size - 1 - i]? = some v) acc items.size → Q acc.toList s' := fun h2 tk k2 s' acc hm hacc => by
    obtain ⟨hp', g', d', tk', os'⟩ := s'
    obtain ⟨m1, m2, m3, m4, m5⟩ := hm
    dsimp only at m1 m2 m3 m4 m5
    subst m2 m3 m4
    have e : acc.toList = items.toList.reverse := by
      refine List.ext_getElem? fun i => ?_
      by_cases hi : i < items.size
      · have h1 : i < acc.size := by rw [hacc.1]; exact hi
        have h2 := hacc.2 i acc[i] (Array.getElem?_eq_getElem h1)
        rw [List.getElem?_reverse (by simpa using hi)]
        simp only [Array.getElem?_toList, Array.length_toList]
        rw [Array.getElem?_eq_getElem h1, h2]
      · rw [List.getElem?_eq_none (by simp [hacc.1]; omega), List.getElem?_eq_none (by simp; omega)]
    rw [e]
    refine hQ hp' tk' fun b o hb he => m1 b o ?_ (k2 b o ?_ (k1 b o he))
    · have : b ≠ s.heap.objs.size := fun z => absurd (Heap.lt_size he) (by rw [z]; exact Nat.lt_irrefl _)
      simp [this, hb]
    · exact fun z => absurd (Heap.lt_size he) (by rw [z]; exact Nat.lt_irrefl _)
  by_cases hz : items.size = 0
  · rw [if_neg (by rw [hz]; decide +kernel)]
    refine wpAny_pure ⟨plainId_quiet F.plain_extend_loop _, fin _ 0 tk _ (fun _ _ _ e => e) hS₁ fun s' acc c' hm hS' hacc => ?_⟩
    show wpAny _ A (load s.heap.objs.size >>= _) _ _ s'
    refine wpAny_bind (wpAny_load hS' ?_)
    exact wpAny_pure (out _ tk (fun _ _ _ e => e) s' acc hm hacc)
  · rw [if_pos (by
      rw [Bool.or_eq_true]
      exact .inl (by rw [bne_iff_ne]; exact fun z => hz (by exact_mod_cast z)))]
    refine wpAny_bind (wpAny_rule ?_)
    refine wpAny_bind ?_
    unfold Builtin.List.listTouch
    refine wpAny_bind (listUpdate_at hS₁ rfl ?_ (Nat.zero_le _) (by show (#[Value.none] : Array Value).size ≤ _; show 1 ≤ _; omega))
    have hS2 := Heap.get?_update_self (Obj.mapSeq (·.push .none)) hS₁ rfl
    refine listUpdate_at hS2 rfl ?_ (by show 1 ≤ _; rw [sizeLine_eq]; omega) (by show 0 ≤ _; omega)
    have hS3 := Heap.get?_update_self (Obj.mapSeq (·.pop)) hS2 rfl
    have kk : ∀ b o, b ≠ s.heap.objs.size → (s.heap.push { cls := .type "list", data := .seq ([] : List Value).toArray }).get? b = some o → (((s.heap.push { cls := .type "list", data := .seq ([] : List Value).toArray }).update s.heap.objs.size (Obj.mapSeq (·.push .none))).update s.heap.objs.size (Obj.mapSeq (·.pop))).get? b = some o := fun b o hb e => by
      rw [Heap.get?_update_other _ _ (Ne.symm hb), Heap.get?_update_other _ _ (Ne.symm hb)]
      exact e
    refine wpAny_pure ⟨plainId_quiet F.plain_extend_loop _, fin _ _ tk _ kk hS3 fun s' acc c' hm hS' hacc => ?_⟩
    show wpAny _ A (load s.heap.objs.size >>= _) _ _ s'
    refine wpAny_bind (wpAny_load hS' ?_)
    exact wpAny_pure (out _ tk kk s' acc hm hacc)
theorem call_tuple_revT {I l : Addr} {items : Array Value} {Q : Value → Shared → Prop} (hh : A.handled = none) (hit : s.heap.IsRevT I l ((items.size : Int) - 1)) (ht : IsTup s.heap l items) (hne : l ≠ I) (hsz : items.size ≤ sizeLine)
    (hQ : ∀ (h' : Heap) (tk : Nat), (∀ b o, b ≠ I → s.heap.get? b = some o → h'.get? b = some o) → Q (.ref h'.objs.size) { s with heap := h'.push { cls := .type "tuple", data := .seq items.toList.reverse.toArray }, toks := tk }) : wpAny (model prog w) A (call (.type "tuple") [.ref I]) Q E s := by
  refine callType_codes (Q₁ := fun obj s₁ => s₁.TypeIs obj "tuple" ∧ Q obj s₁) F.called_tuple (F.typeCall_tuple_1 _) F.entry_object_init ?_ fun obj s₁ h₁ =>
    ⟨h₁.1, F.args_object_init_2 obj _, object_init_meets F.called_tuple.init.lookup F.called_tuple.made (by decide) prog w A.in1 _ s₁ ⟨h₁.1, rfl, h₁.2⟩⟩
  obtain ⟨o, ho, hc, hd⟩ := id hit
  have hTI : s.TypeIs (.ref I) "reversed" := ⟨o, ho, hc⟩
  refine codeAny_of_tree ?_
  show wpAny _ A.in1.in1 (do checkBuiltinCall "tuple.__new__" ⟨[.type "tuple", .ref I], []⟩; again (.builtin "tuple.__new__" ⟨[.type "tuple", .ref I], []⟩)) _ _ s
  refine wpAny_bind (wpAny_of_eq (F.newCall_tuple_1 _) (wpAny_pure ⟨plainId_quiet F.plain_tuple_new _, codeAny_builtin F.entry_tuple_new ?_⟩))
  rw [Around.under_plainId F.plain_tuple_new _]
  have hsub := sub_tuple_self
  have hinit := init_tuple_lookup
  have hmh := madeHere_tuple
  have hh1 : A.in1.in1.handled = none := hh
  wp_walk using wpAny_typeOf hTI, collect_revT hh1 hit ht hne hsz
  intro h' tk kp
  show wpAny _ _ (Builtin.Tuple.tupleExact items.toList.reverse.toArray >>= fun v => ret v) _ _ _
  unfold Builtin.Tuple.tupleExact
  refine wpAny_bind (wpAny_newObj_type ?_ (by show items.toList.reverse.toArray.size ≤ sizeLine; simpa using hsz))
  exact wpAny_pure ⟨⟨_, Heap.get?_push_size _ rfl, rfl⟩, hQ h' tk kp⟩
end
end PySem
namespace L3
open PySem PySem.Spec PyProof.Rows L2
section
variable {X : Cx}
theorem vals_ints : ∀ {us : List Value} {ns : List Int}, IntsAre us ns → Vals (ns.map V.int) us := by
  intro us ns h
  induction h with
  | nil => exact .nil
  | cons n t _ ih => exact .cons ⟨t, rfl⟩ ih
theorem call_sortT : CallR X (.builtin "sorted") (fun xs H Q => ∃ (p : Addr) (ns : List Int), xs = [.ref p] ∧ SqT X.K H p (ns.map V.int) ∧ ns.length < 64 ∧ ∀ (r : Addr) (zs : List Int), H r = none → zs.Perm ns → Q (.ref r) (upd H r (.lst (zs.map V.int)))) := by
  intro pins s σ H xs us Q I r h
  obtain ⟨p, ns, rfl, hq, h64, q⟩ := h
  obtain ⟨u, rfl, rx⟩ := vals1 r
  cases rx
  obtain ⟨its, r', pl, hz⟩ := I.tuple hq
  have hlen := r'.length
  rw [List.length_map] at hlen
  obtain ⟨o, ho, hc, n, hd⟩ := pl
  refine sorted_tuple ho hc hd (intsAre_of r') (by omega) fun h1 out ns' kp hO hP => ?_
  have I1 : Inv X pins σ H { s with heap := h1 } := I.kept (t' := s.toks) kp
  have hz1 : (h1.push (seqObj "list" its.toArray 0)).objs.size = h1.objs.size + 1 := size_push' ..
  have keep : ∀ b u, h1.get? b = some u → (sortedHeap (h1.push (seqObj "list" its.toArray 0)) h1.objs.size its out).get? b = some u := fun b u e => by
    have hlt := Heap.lt_size e
    rw [sortedHeap_old (Nat.ne_of_lt hlt) (by rw [hz1]; exact Nat.lt_succ_of_lt hlt)]
    exact Heap.get?_push_of_some _ e
  obtain ⟨c', hl⟩ := sortedHeap_at (h := h1.push (seqObj "list" its.toArray 0)) (a := h1.objs.size) (vs := its) (n := 0) (out := out) (Heap.get?_push_size _ rfl)
  have hnl : ns'.length = ns.length := hP.length_eq
  have I2 : Inv X pins σ (upd H h1.objs.size (.lst (ns'.map V.int))) { s with heap := sortedHeap (h1.push (seqObj "list" its.toArray 0)) h1.objs.size its out } :=
    I1.laid (t' := s.toks) keep (Nat.le_refl _) (show ObjOk X.prog X.w _ _ _ (.lst (ns'.map V.int)) from ⟨by rw [List.length_map, hnl, sizeLine_eq]; omega, out.toList, c', vals_ints hO, hl⟩)
  exact ⟨.ref h1.objs.size, _, I2, rfl, q _ ns' (I1.hok.fresh (Nat.le_refl _)) hP⟩
theorem pe_trev {e : Expr} {te : TE} {p1 p2 q1 q2 : Pos} (hc : X.calm = true) (hgT : Gl X "tuple") (hmT : X.mg "tuple" = none) (hgR : Gl X "reversed") (hmR : X.mg "reversed" = none) (he : PE X e te)
    (h1 : starEach [e] X.env = [(false, eval e X.env)] := by rfl) : PE X (.Call (.Name "tuple" p1) [.Call (.Name "reversed" p2) [e] [] q2] [] q1) (fun σ H Q => tCons te tNil σ H fun vs H1 => ∃ (p : Addr) (xs : List V), vs = [.ref p] ∧ SqT X.K H1 p xs ∧ xs.length ≤ sizeLine ∧ ∀ (H2 : Hp) (r : Addr), Same H1 H2 → SqT X.K H2 r xs.reverse → Q (.ref r) H2) := by
  intro pins s σ H Q I h
  refine wpAny_Call_Name_kw (ld_blt I hgT hmT boot_tuple ?_)
  refine PyProof.Rows.callWith_type1 ?_ (by rfl) (by rfl)
  show wpAny _ _ (spliced ((false, eval (.Call (.Name "reversed" p2) [e] [] q2) X.env) :: [])) _ _ s
  refine Calls.spliced_cons ?_
  refine wpAny_Call_Name_kw (ld_blt I hgR hmR PyProof.Rows.boot_reversed ?_)
  refine PyProof.Rows.callWith_type1 (thn (pa_cons he pa_nil (by rw [h1]; rfl) q2 pins s σ H (fun vs H1 => ∃ (p : Addr) (xs : List V), vs = [.ref p] ∧ SqT X.K H1 p xs ∧ xs.length ≤ sizeLine ∧ ∀ (H2 : Hp) (r : Addr), Same H1 H2 → SqT X.K H2 r xs.reverse → Q (.ref r) H2) I h) fun us s1 ⟨vs, H1, I1, r1, q1⟩ => ?_) (by rw [h1]; rfl) (by rfl)
  obtain ⟨p, xs, rfl, hq, hz, q⟩ := q1
  obtain ⟨u, rfl, rx⟩ := vals1 r1
  cases rx
  obtain ⟨its, r', pl, hz'⟩ := I1.tuple hq
  have hlen := r'.length
  have hsz : its.toArray.size ≤ sizeLine := by rw [List.size_toArray]; omega
  refine call_reversed_tuple pl (by rw [sizeLine_eq] at hsz; omega) fun tk => ?_
  refine Calls.spliced_nil ?_
  have hlt : p < s1.heap.objs.size := by obtain ⟨o, ho, _⟩ := pl; exact Heap.lt_size ho
  have kp1 : ∀ b o, s1.heap.get? b = some o → (s1.heap.push (revT p ((its.toArray.size : Int) - 1))).get? b = some o := fun b o e => Heap.get?_push_of_some _ e
  refine call_tuple_revT (I1.ok.hd hc) ⟨_, Heap.get?_push_size _ rfl, rfl, rfl⟩ (tup_at pl fun o e => kp1 _ o e) (Nat.ne_of_lt hlt) hsz fun h' tk' kp => ?_
  have kp2 : ∀ b o, s1.heap.get? b = some o → h'.get? b = some o := fun b o e => kp b o (Nat.ne_of_lt (Heap.lt_size e)) (kp1 b o e)
  have I2 : Inv X pins σ H1 { s1 with heap := h', toks := tk' } := I1.kept (t' := tk') kp2
  have I3 : Inv X pins σ (upd H1 h'.objs.size (.tup xs.reverse)) { s1 with heap := h'.push { cls := .type "tuple", data := .seq its.reverse.toArray }, toks := tk' } :=
    I2.laid (t' := tk') (fun b o e => Heap.get?_push_of_some _ e) (Nat.le_refl _) (show ObjOk X.prog X.w _ _ _ (.tup xs.reverse) from ⟨by rw [List.length_reverse]; exact hz, its.reverse, Vals.rev r', IsTup.new _ _⟩)
  exact ⟨.ref h'.objs.size, _, I3, rfl, q _ _ (same_upd (I2.hok.fresh (Nat.le_refl _))) (SqT.of upd_same)⟩
end
end L3
namespace K29
open PySem PySem.Spec PyProof.Rows L2 L3 Vm
def top (i : Nat) : Stmt := PySem.Challenge.pw_vellum_k29_notes_refused.main.body.getD i (.Pass ⟨0, 0, 0, 0⟩)
abbrev sRdf : Stmt := top 11
abbrev sCB : Stmt := top 12
abbrev sOB : Stmt := top 13
abbrev sCell : Stmt := top 15
abbrev sDraw : Stmt := top 16
abbrev sWordBy : Stmt := top 17
abbrev sPool : Stmt := top 18
abbrev sCol : Stmt := top 19
abbrev sSame : Stmt := top 20
abbrev sRd : Stmt := top 21
abbrev sNts : Stmt := top 22
abbrev sOR : Stmt := top 23
abbrev sORd : Stmt := top 24
abbrev sSpo : Stmt := top 25
abbrev sKO : Stmt := top 26
abbrev sAsk : Stmt := top 27
abbrev sLaw : Stmt := top 28
section
variable {P : Program} {w : World} {K : PySem.W.Frag} {mg : Str → Option Value} {base : Heap}
structure Dfn (K : PySem.W.Frag) (mg : Str → Option Value) (x : Str) (st : Stmt) (f : Addr) (fd : FuncData) (ps : List Str) : Prop where
  fn : Fun K x x st f fd
  at_ : mg x = some (.ref f)
  bn : Binds K fd ps []
theorem kit_same (v : Value) : PySem.W.kitOne K v v = some true := by
  unfold PySem.W.kitOne
  rw [if_pos (beq_self_eq_true _)]
def cellD (ns : List Int) (k : Int) : Int := (ns[k.toNat]?).getD 0
def spCell (K : PySem.W.Frag) : Sp := fun vs H Q _ => ∃ (a : Addr) (ns : List Int) (k : Int), vs = [.ref a, .int k] ∧ SqL K H a (ns.map V.int) ∧ 0 ≤ k ∧ Q (.int (cellD ns k)) H
theorem scCell : FnScope ["script", "k"] ["script", "k"] (defScope sCell) := ⟨rfl, rfl, rfl, by decide +kernel, rfl, by decide +kernel, by decide +kernel⟩
theorem ok_cell {f : Addr} {fd : FuncData} (F : Fun K "_law_cell_at" "_law_cell_at" sCell f fd) (mlen : mg "len" = none) : FnOk P w K mg base CX0 1 f fd ["script", "k"] (spCell K) := by
  refine Fun.okR F scCell (fun vs H Q E h => ?_) (fun cdv A outer s H vs Q Q2 E hr h hq => ?_)
  · obtain ⟨a, ns, k, rfl, _⟩ := h
    rfl
  · obtain ⟨a, ns, k, rfl, hS, h0, q⟩ := h
    refine ⟨_, pss_cons (ps_if (pt_cmpR op_lt (pv 1) (pe_callB call_len_seq (by rfl) mlen PySem.boot_len (pa_cons (pv 0) pa_nil)) (nomark _)) (pss_one (ps_ret (pe_ix ix_list (pv 0) (pv 1) (fun _ _ => rfl)))) pss_nil)
      (pss_one (ps_ret pe_int)), ?_⟩
    refine ⟨_, rfl, _, rfl, a, _, rfl, .inl hS, _, _, rfl, rfl, _, rfl, ?_⟩
    obtain ⟨j, hj⟩ : ∃ j : Nat, k = (j : Int) := ⟨k.toNat, by omega⟩
    subst hj
    refine ite2 (fun h => ?_) (fun h => ?_)
    · have hl := of_decide_eq_true h
      rw [List.length_map] at hl
      have hj' : j < ns.length := by omega
      have e : cellD ns (j : Int) = ns[j] := by unfold cellD; rw [Int.toNat_natCast, List.getElem?_eq_getElem hj']; rfl
      rw [e] at q
      exact ⟨_, rfl, _, rfl, a, _, _, _, rfl, rfl, hS, atI_nat (by rw [List.getElem?_map, List.getElem?_eq_getElem hj']; rfl), hq _ _ (Rst.same (Same.refl H) q)⟩
    · have hl : ¬ ((j : Int) < ((ns.map V.int).length : Int)) := fun c => h (decide_eq_true c)
      rw [List.length_map] at hl
      have e : cellD ns (j : Int) = 0 := by unfold cellD; rw [Int.toNat_natCast, List.getElem?_eq_none (by omega)]; rfl
      rw [e] at q
      exact hq _ _ (Rst.same (Same.refl H) q)
theorem bits_cell {ns : List Int} (hb : ∀ m ∈ ns, Builtin.Int.intBits m ≤ 1048576) (k : Int) : Builtin.Int.intBits (cellD ns k) ≤ 1048576 := by
  unfold cellD
  cases e : ns[k.toNat]? with
  | none => show Builtin.Int.intBits 0 ≤ _; decide
  | some n => exact hb n (List.mem_of_getElem? e)
theorem letter_at (r : Int) : ∃ c, atI (letters.cps.toList) (r % 26) = some c ∧ Al c := by
  have h0 : 0 ≤ r % 26 := Int.emod_nonneg _ (by decide)
  have h1 : r % 26 < 26 := Int.emod_lt_of_pos _ (by decide)
  have e : r % 26 = ((r % 26).toNat : Int) := by omega
  refine ⟨97 + (r % 26).toNat, ?_, al_mod _ (by omega)⟩
  rw [e]
  refine atI_nat ?_
  rw [letters_cps, List.getElem?_map, List.getElem?_range (by omega)]
  rfl
def Lets (z : Str) (n : Nat) : Prop := z.length = n ∧ ∀ c ∈ z.cps.toList, Al c
theorem lets_app {z : Str} {n c : Nat} (h : Lets z n) (hc : Al c) : Lets (z ++ ⟨#[c]⟩) (n + 1) := by
  refine ⟨by rw [app_len, h.1]; rfl, fun d hd => ?_⟩
  rw [app_list] at hd
  rcases List.mem_append.mp hd with hd | hd
  · exact h.2 d hd
  · have : d = c := by simpa using hd
    rw [this]; exact hc
theorem lets_good {z : Str} {n : Nat} (h : Lets z n) (h1 : 1 ≤ n) (h2 : n ≤ 12) : Good z := ⟨by rw [h.1]; exact h1, by rw [h.1]; exact h2, h.2⟩
def mixD (c k : Int) : Int := (c * 2 + 1) * (k * k * 9176023 + 84127918273645463728191) % 170141183460469231731687303715884105727
def drawD (c k m : Int) : Int := mixD c k * (mixD c k + 5) % 170141183460469231731687303715884105727 / 7 % m
theorem draw_lo (c k : Int) {m : Int} (h : 0 < m) : 0 ≤ drawD c k m := Int.emod_nonneg _ (by omega)
theorem draw_hi (c k : Int) {m : Int} (h : 0 < m) : drawD c k m < m := Int.emod_lt_of_pos _ h
def spDraw : Sp := fun vs H Q _ => ∃ c k m : Int, vs = [.int c, .int k, .int m] ∧ Builtin.Int.intBits c ≤ 1048576 ∧ 0 ≤ k ∧ k ≤ 100000 ∧ 0 < m ∧ Q (.int (drawD c k m)) H
theorem scDraw : FnScope ["cell", "k", "many", "prime", "mixed"] ["cell", "k", "many"] (defScope sDraw) := ⟨rfl, rfl, rfl, by decide +kernel, rfl, by decide +kernel, by decide +kernel⟩
theorem ok_draw {f : Addr} {fd : FuncData} (F : Fun K "_law_draw" "_law_draw" sDraw f fd) : FnOk P w K mg base CX0 1 f fd ["cell", "k", "many"] spDraw := by
  refine Fun.okR F scDraw (fun vs H Q E h => ?_) (fun cdv A outer s H vs Q Q2 E hr h hq => ?_)
  · obtain ⟨c, k, m, rfl, _⟩ := h
    rfl
  · obtain ⟨c, k, m, rfl, hb, hk0, hk1, hm, q⟩ := h
    refine ⟨_, pss_cons (ps_set (i := 3) scDraw.nd rfl (Or.inl rfl) pe_int)
      (pss_cons (ps_set (i := 4) scDraw.nd rfl (Or.inl rfl) (pe_op op_mod (pe_op op_mulB (pe_op op_add (pe_op op_mulB (pv 0) pe_int) pe_int) (pe_op op_add (pe_op op_mulB (pe_op op_mulB (pv 1) (pv 1)) pe_int) pe_int)) (pv 3)))
      (pss_one (ps_ret (pe_op op_mod (pe_op op_fdiv (pe_op op_mod (pe_op op_mulB (pv 4) (pe_op op_add (pv 4) pe_int)) (pv 3)) pe_int) (pv 2))))), ?_⟩
    have p0 : (0 : Int) < 170141183460469231731687303715884105727 := by decide
    have bk : Builtin.Int.intBits k ≤ 20 := intBits_le_iff.mpr (by omega)
    have b2 : Builtin.Int.intBits 2 ≤ 2 := by decide +kernel
    have b1 : Builtin.Int.intBits 1 ≤ 1 := by decide +kernel
    have b9 : Builtin.Int.intBits 9176023 ≤ 24 := by decide +kernel
    have b8 : Builtin.Int.intBits 84127918273645463728191 ≤ 77 := by decide +kernel
    have b5 : Builtin.Int.intBits 5 ≤ 3 := by decide +kernel
    have bA := intBits_add_le (intBits_mul_le hb b2) b1
    have bB := intBits_add_le (intBits_mul_le (intBits_mul_le bk bk) b9) b8
    have x0 : 0 ≤ mixD c k := Int.emod_nonneg _ (by decide)
    have x1 : mixD c k < 170141183460469231731687303715884105727 := Int.emod_lt_of_pos _ p0
    have bx : Builtin.Int.intBits (mixD c k) ≤ 127 := intBits_le_iff.mpr (by
      have : (2 : Nat) ^ 127 = 170141183460469231731687303715884105728 := by decide
      rw [this]; omega)
    have by5 := intBits_add_le bx b5
    refine ⟨_, rfl, _, _, rfl, rfl, .of_le hb b2 (by decide), _, _, rfl, rfl, _, rfl, _, rfl, _, _, rfl, rfl, .of_le bk bk (by decide), _, _, rfl, rfl, .of_le (intBits_mul_le bk bk) b9 (by decide), _, _, rfl, rfl, _, _, rfl, rfl, .of_le bA bB (by decide), _, rfl, _, _, rfl, rfl, p0, ?_⟩
    refine ⟨_, rfl, _, rfl, _, _, rfl, rfl, _, _, rfl, rfl, .of_le bx by5 (by decide), _, rfl, _, _, rfl, rfl, p0, _, _, rfl, rfl, ⟨by decide, by decide⟩, _, rfl, _, _, rfl, rfl, hm, hq _ _ (Rst.same (Same.refl H) q)⟩
theorem at4 (c k : Int) : ∃ n : Nat, atI [V.int 1, .int 2, .int 3, .int 12] (drawD c k 4) = some (.int ((n : Nat) : Int)) ∧ 1 ≤ n ∧ n ≤ 12 := by
  have h0 := draw_lo c k (m := 4) (by decide)
  have h1 := draw_hi c k (m := 4) (by decide)
  generalize drawD c k 4 = d at h0 h1
  obtain ⟨j, rfl⟩ : ∃ j : Nat, d = (j : Int) := ⟨d.toNat, by omega⟩
  have hj : j < 4 := by omega
  match j, hj with
  | 0, _ => exact ⟨1, rfl, by decide, by decide⟩
  | 1, _ => exact ⟨2, rfl, by decide, by decide⟩
  | 2, _ => exact ⟨3, rfl, by decide, by decide⟩
  | 3, _ => exact ⟨12, rfl, by decide, by decide⟩
def spWordBy : Sp := fun vs H Q _ => ∃ c k : Int, vs = [.int c, .int k] ∧ Builtin.Int.intBits c ≤ 1048576 ∧ 0 ≤ k ∧ k ≤ 100 ∧ ∀ z, Good z → Q (.str z) H
theorem scWordBy : FnScope ["cell", "k", "word", "j"] ["cell", "k"] (defScope sWordBy) := ⟨rfl, rfl, rfl, by decide +kernel, rfl, by decide +kernel, by decide +kernel⟩
theorem ok_wordby {f gD : Addr} {fd dD : FuncData} (F : Fun K "_law_word_by" "_law_word_by" sWordBy f fd) (DD : Dfn K mg "_law_draw" sDraw gD dD ["cell", "k", "many"]) (mrange : mg "range" = none) : FnOk P w K mg base CX0 2 f fd ["cell", "k"] spWordBy := by
  have GD : FnOk P w K mg base CX0 1 gD dD ["cell", "k", "many"] spDraw := ok_draw DD.fn
  refine Fun.okR F scWordBy (fun vs H Q E h => ?_) (fun cdv A outer s H vs Q Q2 E hr h hq => ?_)
  · obtain ⟨c, k, rfl, _⟩ := h
    rfl
  · obtain ⟨c, k, rfl, hb, hk0, hk1, q⟩ := h
    refine ⟨_, pss_cons (ps_set (i := 2) scWordBy.nd rfl (Or.inl rfl) pe_str)
      (pss_cons (ps_for PassesOwn.never rfl (pi_range1 (by rfl) mrange (pa_cons (pe_ix ix_list (pe_lst (pa_cons pe_int (pa_cons pe_int (pa_cons pe_int (pa_cons pe_int pa_nil))))) (pe_call GD hr (by rfl) DD.at_ DD.fn.kp DD.bn .nil pass0 (pa_cons (pv 0) (pa_cons (pe_op op_add (pe_op op_mul pe_int (pv 1)) pe_int) (pa_cons pe_int pa_nil)))) (fun _ _ => rfl)) pa_nil)) (pg_name (i := 3) scWordBy.nd rfl (Or.inl rfl))
        (pss_one (ps_set (i := 2) scWordBy.nd rfl (Or.inl rfl) (pe_op op_add_str (pv 2) (pe_ix ix_str pe_str (pe_call GD hr (by rfl) DD.at_ DD.fn.kp DD.bn .nil pass0 (pa_cons (pv 0) (pa_cons (pe_op op_add (pe_op op_add pe_int (pe_op op_mul pe_int (pv 1))) (pv 3)) (pa_cons pe_int pa_nil)))) (fun _ _ => rfl))))))
      (pss_one (ps_ret (pv 2)))), ?_⟩
    obtain ⟨n, hn, n1, n2⟩ := at4 c (10 * k + 1)
    refine ⟨few (by show 4 ≤ _; omega), fun l hl => ?_⟩
    refine ⟨_, rfl, _, rfl, _, _, rfl, rfl, .inl ⟨by decide, by decide⟩, _, _, rfl, rfl, _, _, _, rfl, hb, (by show (0 : Int) ≤ 10 * k + 1; omega), (by show 10 * k + 1 ≤ 100000; omega), (by show (0 : Int) < 4; decide), l, _, _, _, rfl, rfl, SqL.of upd_same, hn, ((n : Nat) : Int), rfl, by omega, by omega, ?_⟩
    rw [Int.toNat_natCast]
    refine for_range (n := n) (fun i σ H2 => ∃ (z : Str) (v3 : Option V), σ = [some (.int c), some (.int k), some (.str z), v3] ∧ H2 = upd H l (.lst [.int 1, .int 2, .int 3, .int 12]) ∧ Lets z i)
      ⟨Str.ofString "", none, rfl, rfl, by decide +kernel, fun c hc => absurd hc (by rw [show (Str.ofString "").cps.toList = [] from by decide +kernel]; exact List.not_mem_nil)⟩ ?_ ?_
    · rintro i σ H2 hi ⟨z, v3, rfl, rfl, hz⟩
      obtain ⟨d, hd, ad⟩ := letter_at (mixD c (300 + 20 * k + (0 + ((i : Nat) : Int))) * (mixD c (300 + 20 * k + (0 + ((i : Nat) : Int))) + 5) % 170141183460469231731687303715884105727 / 7)
      refine ⟨_, rfl, _, rfl, _, rfl, _, _, rfl, rfl, .inl ⟨by decide, by decide⟩, _, _, rfl, rfl, _, rfl, _, _, rfl, rfl, _, _, _, rfl, hb, (by show (0 : Int) ≤ 300 + 20 * k + (0 + ((i : Nat) : Int)); omega), (by show 300 + 20 * k + (0 + ((i : Nat) : Int)) ≤ 100000; omega), (by show (0 : Int) < 26; decide), letters, _, d, rfl, rfl, (by decide +kernel), hd, _, _, rfl, rfl, few (by rw [hz.1]; show _ + 1 ≤ _; omega), ?_⟩
      exact ⟨_, _, rfl, rfl, lets_app hz ad⟩
    · rintro σ H2 ⟨z, v3, rfl, rfl, hz⟩
      exact ⟨_, rfl, hq _ _ (Rst.same (same_upd hl) (q _ (lets_good hz n1 n2)))⟩
theorem turned_good {z : Str} (g : Good z) {j d : Nat} (hj : j < z.length) (ad : Al d) : Good (((⟨(z.cps.toList.take j).toArray⟩ : Str) ++ (⟨#[d]⟩ : Str)) ++ (⟨(z.cps.toList.drop (j + 1)).toArray⟩ : Str)) := by
  have hl := g.lo
  have hh := g.hi
  have hz := clen z
  have l1 : (⟨#[d]⟩ : Str).length = 1 := rfl
  refine ⟨?_, ?_, fun c hc => ?_⟩
  · rw [app_len, app_len, l1]
    omega
  · rw [app_len, app_len, l1, mk_len, mk_len, List.length_take, List.length_drop]
    omega
  · rw [app_list, app_list, mk_list, mk_list] at hc
    rcases List.mem_append.mp hc with hc | hc
    · rcases List.mem_append.mp hc with hc | hc
      · exact g.al c (List.mem_of_mem_take hc)
      · have e : c = d := by simpa using hc
        rw [e]; exact ad
    · exact g.al c (List.mem_of_mem_drop hc)
def spPool : Sp := fun vs H Q _ => ∃ c : Int, vs = [.int c] ∧ Builtin.Int.intBits c ≤ 1048576 ∧ ∀ (p : Addr) (ws : List Str), H p = none → ws.length = 5 → (∀ z ∈ ws, Good z) → Q (.ref p) (upd H p (.lst (ws.map V.str)))
theorem scPool : FnScope ["cell", "pool", "at", "letter"] ["cell"] (defScope sPool) := ⟨rfl, rfl, rfl, by decide +kernel, rfl, by decide +kernel, by decide +kernel⟩
theorem nd_kc : (["k", "cell"] : List Str).Nodup := by decide +kernel
theorem ok_pool {f gD gW : Addr} {fd dD dW : FuncData} (F : Fun K "_law_pool" "_law_pool" sPool f fd) (DD : Dfn K mg "_law_draw" sDraw gD dD ["cell", "k", "many"]) (DW : Dfn K mg "_law_word_by" sWordBy gW dW ["cell", "k"]) (mrange : mg "range" = none) (mlen : mg "len" = none) : FnOk P w K mg base CX0 3 f fd ["cell"] spPool := by
  have GD : FnOk P w K mg base CX0 2 gD dD ["cell", "k", "many"] spDraw := (ok_draw DD.fn).mono (by decide)
  have GW : FnOk P w K mg base CX0 2 gW dW ["cell", "k"] spWordBy := ok_wordby DW.fn DD mrange
  refine Fun.okR F scPool (fun vs H Q E h => ?_) (fun cdv A outer s H vs Q Q2 E hr h hq => ?_)
  · obtain ⟨c, rfl, _⟩ := h
    rfl
  · obtain ⟨c, rfl, hb, q⟩ := h
    refine ⟨_, pss_cons (ps_setC (i := 1) (Nc := ["k", "cell"]) (mp := [none, some 0]) rfl scPool.nd rfl rfl (CompOk.of (by rfl)) (pi_range1 (by rfl) mrange (pa_cons pe_int pa_nil)) (fun cl C s H fp => ⟨pg_name (i := 0) nd_kc rfl (Or.inl rfl), pts_nil, pe_call GW hr (by rfl) DW.at_ DW.fn.kp DW.bn .nil pass0 (pa_cons (pv 1) (pa_cons (pv 0) pa_nil))⟩))
      (pss_cons (ps_set (i := 2) scPool.nd rfl (Or.inl rfl) (pe_call GD hr (by rfl) DD.at_ DD.fn.kp DD.bn .nil pass0 (pa_cons (pv 0) (pa_cons pe_int (pa_cons (pe_callB call_len_str (by rfl) mlen PySem.boot_len (pa_cons (pe_ix ix_list (pv 1) pe_int (fun _ _ => rfl)) pa_nil)) pa_nil)))))
      (pss_cons (ps_set (i := 3) scPool.nd rfl (Or.inl rfl) (pe_ix ix_str pe_str (pe_call GD hr (by rfl) DD.at_ DD.fn.kp DD.bn .nil pass0 (pa_cons (pv 0) (pa_cons pe_int (pa_cons pe_int pa_nil)))) (fun _ _ => rfl)))
      (pss_one (ps_ret (pe_op op_cat (pv 1) (pe_lst (pa_cons (pe_op op_add_str (pe_op op_add_str (pe_slice sl_str (pe_ix ix_list (pv 1) pe_int (fun _ _ => rfl)) po_none (po_some (pv 2))) (pv 3)) (pe_slice sl_str (pe_ix ix_list (pv 1) pe_int (fun _ _ => rfl)) (po_some (pe_op op_add (pv 2) pe_int)) po_none)) pa_nil))))))), ?_⟩
    refine ⟨4, rfl, by decide, by decide, ?_⟩
    refine comp_grow (as := List.range 4) (v := fun k => .int (0 + ((k : Nat) : Int))) (fun i acc H' => H' = H ∧ ∃ ws : List Str, acc = ws.map V.str ∧ ws.length = i ∧ ∀ z ∈ ws, Good z) (fun i acc H' _ ⟨e, _⟩ => by rw [e]; exact src_range 0 4 H) (by rw [List.length_range]; exact few (by omega))
      ⟨rfl, [], rfl, rfl, fun _ z => nomatch z⟩ (fun i acc H' ⟨_, ws, e, hl, _⟩ => by rw [e, List.length_map, hl]) ?_ ?_
    · rintro i k acc H' hk ⟨rfl, ws, rfl, hl, hw⟩ kk hkk
      have hk' : k < 4 := List.mem_range.mp (List.mem_of_getElem? hk)
      refine ⟨_, rfl, _, rfl, _, _, rfl, hb, (by show (0 : Int) ≤ 0 + ((k : Nat) : Int); omega), (by show 0 + ((k : Nat) : Int) ≤ 100; omega), fun z hz => hkk _ _ ⟨rfl, ws ++ [z], by rw [List.map_append]; rfl, by rw [List.length_append, hl]; rfl, fun y hy => ?_⟩⟩
      rcases List.mem_append.mp hy with hy | hy
      · exact hw y hy
      · rw [List.mem_singleton.mp hy]; exact hz
    · rintro acc H' ⟨rfl, ws, rfl, hl, hw⟩ D hD
      rw [List.length_range] at hl
      have SD := same_upd (o := .lst (ws.map V.str)) hD
      obtain ⟨z, rs, rfl⟩ : ∃ z rs, ws = z :: rs := by
        cases ws with
        | nil => simp at hl
        | cons z rs => exact ⟨z, rs, rfl⟩
      have g : Good z := hw z (List.mem_cons_self ..)
      have glo := g.lo
      have ghi := g.hi
      have hm : (0 : Int) < (z.length : Int) := by omega
      have h0 := draw_lo c 61 hm
      have h1 := draw_hi c 61 hm
      obtain ⟨j, hj⟩ : ∃ j : Nat, drawD c 61 (z.length : Int) = (j : Int) := ⟨(drawD c 61 (z.length : Int)).toNat, by omega⟩
      obtain ⟨d, hd, ad⟩ := letter_at (mixD c 62 * (mixD c 62 + 5) % 170141183460469231731687303715884105727 / 7)
      have c1 : cutL z.cps.toList none (some (drawD c 61 (z.length : Int))) = z.cps.toList.take j := by rw [hj]; exact cutL_take _ j
      have c2 : cutL z.cps.toList (some (drawD c 61 (z.length : Int) + 1)) none = z.cps.toList.drop (j + 1) := by
        rw [hj, show ((j : Int) + 1) = ((j + 1 : Nat) : Int) by omega]; exact cutL_drop _ _
      have hz := clen z
      have l1 : (⟨#[d]⟩ : Str).length = 1 := rfl
      have s1 : (⟨(cutL z.cps.toList none (some (drawD c 61 (z.length : Int)))).toArray⟩ : Str).length + (⟨#[d]⟩ : Str).length ≤ sizeLine := by
        rw [c1, l1, mk_len, List.length_take]
        exact few (by omega)
      have s2 : ((⟨(cutL z.cps.toList none (some (drawD c 61 (z.length : Int)))).toArray⟩ : Str) ++ (⟨#[d]⟩ : Str)).length + (⟨(cutL z.cps.toList (some (drawD c 61 (z.length : Int) + 1)) none).toArray⟩ : Str).length ≤ sizeLine := by
        rw [app_len, c1, c2, l1, mk_len, mk_len, List.length_take, List.length_drop]
        exact few (by omega)
      have s3 : Good (((⟨(cutL z.cps.toList none (some (drawD c 61 (z.length : Int)))).toArray⟩ : Str) ++ (⟨#[d]⟩ : Str)) ++ (⟨(cutL z.cps.toList (some (drawD c 61 (z.length : Int) + 1)) none).toArray⟩ : Str)) := by
        rw [c1, c2]
        exact turned_good g (by omega) ad
      have uD : upd H' D (.lst ((z :: rs).map V.str)) D = some (.lst ((z :: rs).map V.str)) := upd_same
      have a0 : atI ((z :: rs).map V.str) 0 = some (.str z) := atI_nat (j := 0) rfl
      generalize upd H' D (.lst ((z :: rs).map V.str)) = H1 at SD uD
      refine ⟨_, rfl, _, rfl, D, _, _, _, rfl, rfl, SqL.of uD, a0, z, rfl, g.small, _, _, _, rfl, hb, (by show (0 : Int) ≤ 61; decide), (by show (61 : Int) ≤ 100000; decide), hm, ?_⟩
      refine ⟨_, rfl, _, _, _, rfl, hb, (by show (0 : Int) ≤ 62; decide), (by show (62 : Int) ≤ 100000; decide), (by show (0 : Int) < 26; decide), letters, _, d, rfl, rfl, (by decide +kernel), hd, ?_⟩
      refine ⟨_, rfl, _, rfl, D, _, _, _, rfl, rfl, SqL.of uD, a0, _, rfl, _, rfl, z, rfl, g.small, _, rfl, _, _, rfl, rfl, s1, _, rfl, D, _, _, _, rfl, rfl, SqL.of uD, a0, _, rfl, _, _, rfl, rfl, _, rfl, z, rfl, g.small, _, _, rfl, rfl, s2, few (by show 1 ≤ _; omega), fun l2 hl2 => ?_⟩
      have S2 := fun y => same_upd (o := .lst [.str y]) hl2
      refine ⟨D, l2, _, _, rfl, rfl, S2 _ _ _ uD, upd_same, (by rw [List.length_map, hl]; exact few (by show 4 + 1 ≤ _; omega)), fun l3 hl3 => ?_⟩
      have S3 := fun xs => same_upd (o := .lst xs) hl3
      have := q l3 ((z :: rs) ++ [_]) (SD.free ((S2 _).free hl3)) (by rw [List.length_append, hl]; rfl) (fun y hy => (List.mem_append.mp hy).elim (hw y) fun hy => by rw [List.mem_singleton.mp hy]; exact s3)
      exact hq _ _ (Rst.one ((SD.trans (S2 _)).trans (S3 _)) (SD.free ((S2 _).free hl3)) upd_same trivial (by rw [List.map_append] at this; exact this))
def spCol : Sp := fun vs H Q _ => ∃ (c : Int) (a : Addr) (m : Nat) (ws : List Str), vs = [.int c, .ref a, .int ((m : Nat) : Int)] ∧ Builtin.Int.intBits c ≤ 1048576 ∧ H a = some (.lst (ws.map V.str)) ∧ ws.length ≤ 100 ∧ (∀ z ∈ ws, Good z) ∧ 1 ≤ m ∧ m ≤ 100 ∧ ∀ (p : Addr) (es : List V), H p = none → es.length = m → (∀ e ∈ es, Ent e) → Q (.ref p) (upd H p (.tup es))
theorem scCol : FnScope ["cell", "pool", "many", "some", "column", "k", "entry"] ["cell", "pool", "many"] (defScope sCol) := ⟨rfl, rfl, rfl, by decide +kernel, rfl, by decide +kernel, by decide +kernel⟩
theorem some_at {ws : List Str} (hg : ∀ z ∈ ws, Good z) (c k : Int) : ∃ v, atI (ws.map V.str ++ [V.non]) (drawD c k ((ws.map V.str ++ [V.non]).length : Int)) = some v ∧ Ent v := by
  have hm : (0 : Int) < ((ws.map V.str ++ [V.non]).length : Int) := by rw [List.length_append]; show (0 : Int) < ((_ + 1 : Nat) : Int); omega
  have h0 := draw_lo c k hm
  have h1 := draw_hi c k hm
  obtain ⟨j, hj⟩ : ∃ j : Nat, drawD c k ((ws.map V.str ++ [V.non]).length : Int) = (j : Int) := ⟨(drawD c k ((ws.map V.str ++ [V.non]).length : Int)).toNat, by omega⟩
  have hjl : j < (ws.map V.str ++ [V.non]).length := by omega
  refine ⟨(ws.map V.str ++ [V.non])[j], by rw [hj]; exact atI_nat (List.getElem?_eq_getElem hjl), ?_⟩
  rcases List.mem_append.mp (List.getElem_mem hjl) with h | h
  · obtain ⟨z, hz, e⟩ := List.mem_map.mp h
    exact .inr ⟨z, hg z hz, e.symm⟩
  · exact .inl (List.mem_singleton.mp h)
theorem ok_col {f gD : Addr} {fd dD : FuncData} (F : Fun K "_law_column_by" "_law_column_by" sCol f fd) (DD : Dfn K mg "_law_draw" sDraw gD dD ["cell", "k", "many"]) (mrange : mg "range" = none) (mlen : mg "len" = none) (mtup : mg "tuple" = none) : FnOk P w K mg base CX0 2 f fd ["cell", "pool", "many"] spCol := by
  have GD : FnOk P w K mg base CX0 1 gD dD ["cell", "k", "many"] spDraw := ok_draw DD.fn
  refine Fun.okR F scCol (fun vs H Q E h => ?_) (fun cdv A outer s H vs Q Q2 E hr h hq => ?_)
  · obtain ⟨c, a, m, ws, rfl, _⟩ := h
    rfl
  · obtain ⟨c, a, m, ws, rfl, hb, ha, hwl, hg, m1, m2, q⟩ := h
    refine ⟨_, pss_cons (ps_set (i := 3) scCol.nd rfl (Or.inl rfl) (pe_op op_cat (pv 1) (pe_lst (pa_cons pe_non pa_nil))))
      (pss_cons (ps_set (i := 4) scCol.nd rfl (Or.inl rfl) (pe_lst (pa_cons (pe_ix ix_list (pv 3) (pe_call GD hr (by rfl) DD.at_ DD.fn.kp DD.bn .nil pass0 (pa_cons (pv 0) (pa_cons pe_int (pa_cons (pe_callB call_len_seq (by rfl) mlen PySem.boot_len (pa_cons (pv 3) pa_nil)) pa_nil)))) (fun _ _ => rfl)) pa_nil)))
      (pss_cons (ps_for PassesOwn.never rfl (pi_range2 (by rfl) mrange (pa_cons pe_int (pa_cons (pv 2) pa_nil))) (pg_name (i := 5) scCol.nd rfl (Or.inl rfl))
        (pss_cons (ps_set (i := 6) scCol.nd rfl (Or.inl rfl) (pe_ix ix_list (pv 4) pe_int (fun _ _ => rfl)))
        (pss_cons (ps_mid (ps_if (pt_cmpR op_eq (pe_call GD hr (by rfl) DD.at_ DD.fn.kp DD.bn .nil pass0 (pa_cons (pv 0) (pa_cons (pe_op op_add pe_int (pv 5)) (pa_cons pe_int pa_nil)))) pe_int (nomark _)) (pss_one (ps_set (i := 6) scCol.nd rfl (Or.inl rfl) (pe_ix ix_list (pv 3) (pe_call GD hr (by rfl) DD.at_ DD.fn.kp DD.bn .nil pass0 (pa_cons (pv 0) (pa_cons (pe_op op_add pe_int (pv 5)) (pa_cons (pe_callB call_len_seq (by rfl) mlen PySem.boot_len (pa_cons (pv 3) pa_nil)) pa_nil)))) (fun _ _ => rfl)))) pss_nil))
        (pss_one (ps_expr (pe_bm PySem.F.plainAttrs_list PySem.F.slot_list_append PySem.F.type_list_append mt_append (pv 4) (pa_cons (pv 6) pa_nil)))))))
      (pss_one (ps_ret (pe_callTy call_tuple_of (by rfl) mtup boot_tuple (pa_cons (pv 4) pa_nil)))))), ?_⟩
    refine ⟨_, rfl, few (by show 1 ≤ _; omega), fun l1 hl1 => ?_⟩
    have S1 := same_upd (o := .lst [V.non]) hl1
    refine ⟨a, l1, _, _, rfl, rfl, S1 _ _ ha, upd_same, (by rw [List.length_map]; exact few (by show _ + 1 ≤ _; omega)), fun l2 hl2 => ?_⟩
    have S2 := same_upd (o := .lst (ws.map V.str ++ [V.non])) hl2
    have hs : upd (upd H l1 (.lst [V.non])) l2 (.lst (ws.map V.str ++ [V.non])) l2 = some (.lst (ws.map V.str ++ [V.non])) := upd_same
    have S12 := S1.trans S2
    generalize upd (upd H l1 (.lst [V.non])) l2 (.lst (ws.map V.str ++ [V.non])) = H2 at S12 hs
    have hm : (0 : Int) < ((ws.map V.str ++ [V.non]).length : Int) := by rw [List.length_append]; show (0 : Int) < ((_ + 1 : Nat) : Int); omega
    obtain ⟨v0, a0, e0⟩ := some_at hg c 1
    refine ⟨_, rfl, _, rfl, _, rfl, l2, _, rfl, .inl (SqL.of hs), _, _, _, rfl, hb, (by show (0 : Int) ≤ 1; decide), (by show (1 : Int) ≤ 100000; decide), hm, l2, _, _, _, rfl, rfl, SqL.of hs, a0, few (by show 1 ≤ _; omega), fun l3 hl3 => ?_⟩
    have S3 := same_upd (o := .lst [v0]) hl3
    refine ⟨_, rfl, 1, ((m : Nat) : Int), rfl, ⟨by decide, by decide, by omega, by omega⟩, ?_⟩
    rw [show (((m : Nat) : Int) - 1).toNat = m - 1 by omega]
    refine for_range (fun i σ H4 => ∃ (es : List V) (v5 v6 : Option V), σ = [some (.int c), some (.ref a), some (.int ((m : Nat) : Int)), some (.ref l2), some (.ref l3), v5, v6] ∧ H4 l3 = some (.lst es) ∧ Same H2 H4 ∧ es.length = i + 1 ∧ ∀ e ∈ es, Ent e)
      ⟨[v0], none, none, rfl, upd_same, S3, rfl, fun e he => by rw [List.mem_singleton.mp he]; exact e0⟩ ?_ ?_
    · rintro i σ H4 hi ⟨es, v5, v6, rfl, h4, S4, hel, hE⟩
      obtain ⟨x0, xs, rfl⟩ : ∃ x0 xs, es = x0 :: xs := by
        cases es with
        | nil => simp at hel
        | cons x0 xs => exact ⟨x0, xs, rfl⟩
      have hs4 := S4 _ _ hs
      refine ⟨_, rfl, l3, _, _, _, rfl, rfl, SqL.of h4, atI_nat (j := 0) rfl, ?_⟩
      refine ⟨fun σ' H' => ∃ v : V, σ' = [some (.int c), some (.ref a), some (.int ((m : Nat) : Int)), some (.ref l2), some (.ref l3), some (.int (1 + ((i : Nat) : Int))), some v] ∧ H' = H4 ∧ Ent v, ?_, ?_⟩
      · refine ⟨_, rfl, _, rfl, _, _, rfl, rfl, _, _, _, rfl, hb, (by show (0 : Int) ≤ 20 + (1 + ((i : Nat) : Int)); omega), (by show 20 + (1 + ((i : Nat) : Int)) ≤ 100000; omega), (by show (0 : Int) < 3; decide), rfl, _, rfl, ?_⟩
        refine ite2 (fun _ => ?_) (fun _ => ⟨x0, rfl, rfl, hE _ (List.mem_cons_self ..)⟩)
        obtain ⟨v1, a1, e1⟩ := some_at hg c (60 + (1 + ((i : Nat) : Int)))
        exact ⟨_, rfl, _, rfl, _, rfl, _, _, rfl, rfl, _, rfl, l2, _, rfl, .inl (SqL.of hs4), _, _, _, rfl, hb, (by show (0 : Int) ≤ 60 + (1 + ((i : Nat) : Int)); omega), (by show 60 + (1 + ((i : Nat) : Int)) ≤ 100000; omega), hm, l2, _, _, _, rfl, rfl, SqL.of hs4, a1, v1, rfl, rfl, e1⟩
      · rintro σ' H' ⟨v, rfl, rfl, hv⟩
        refine ⟨_, rfl, .inl ⟨rfl, _, SqL.of h4⟩, _, rfl, l3, _, _, rfl, rfl, h4, (by rw [hel]; exact fewer (by omega)), (x0 :: xs) ++ [v], _, _, rfl, upd_same, same_to S4 hl3, by rw [List.length_append, hel]; rfl, fun e he => ?_⟩
        rcases List.mem_append.mp he with he | he
        · exact hE e he
        · rw [List.mem_singleton.mp he]; exact hv
    · rintro σ H4 ⟨es, v5, v6, rfl, h4, S4, hel, hE⟩
      refine ⟨_, rfl, l3, _, rfl, .inl ⟨SqL.of h4, fun p hp => ?_⟩⟩
      have S5 := same_upd (o := .tup es) hp
      have hn := S12.free (S4.free hp)
      exact hq _ _ (Rst.one ((S12.trans S4).trans S5) hn upd_same trivial (q p es hn (by omega) hE))
theorem FnOk.or2 {k : Nat} {f : Addr} {fd : FuncData} {ps : List Str} {sp1 sp2 sp : Sp} (F1 : FnOk P w K mg base CX0 k f fd ps sp1) (F2 : FnOk P w K mg base CX0 k f fd ps sp2) (h : ∀ vs H Q E, sp vs H Q E → sp1 vs H Q E ∨ sp2 vs H Q E) : FnOk P w K mg base CX0 k f fd ps sp :=
  ⟨fun vs H Q E hs => (h vs H Q E hs).elim (F1.len vs H Q E) (F2.len vs H Q E), fun A outer s H args us vs Q E hr he hb hv hs => (h vs H Q E hs).elim (fun z => F1.run A outer s H args us vs Q E hr he hb hv z) (fun z => F2.run A outer s H args us vs Q E hr he hb hv z)⟩
def SameV (H : Hp) : Nat → V → V → Prop
  | 0, x, y => (∃ z, x = .str z ∧ y = .str z) ∨ (∃ n, x = .int n ∧ y = .int n) ∨ (x = .non ∧ y = .non)
  | n + 1, x, y => SameV H n x y ∨ ∃ (p r : Addr) (xs ys : List V), x = .ref p ∧ y = .ref r ∧ H p = some (.tup xs) ∧ H r = some (.tup ys) ∧ xs.length = ys.length ∧ ys.length ≤ 100000 ∧ ∀ (i : Nat) (a b : V), xs[i]? = some a → ys[i]? = some b → SameV H n a b
def spSame (n : Nat) : Sp := fun vs H Q _ => ∃ x y, vs = [x, y] ∧ SameV H n x y ∧ Q (.bl true) H
def spSameT (n : Nat) : Sp := fun vs H Q _ => ∃ (p r : Addr) (xs ys : List V), vs = [.ref p, .ref r] ∧ H p = some (.tup xs) ∧ H r = some (.tup ys) ∧ xs.length = ys.length ∧ ys.length ≤ 100000 ∧ (∀ (i : Nat) (a b : V), xs[i]? = some a → ys[i]? = some b → SameV H n a b) ∧ Q (.bl true) H
theorem scSame : FnScope ["found", "due"] ["found", "due"] (defScope sSame) := ⟨rfl, rfl, rfl, by decide +kernel, rfl, by decide +kernel, by decide +kernel⟩
structure Kinds (K : PySem.W.Frag) : Prop where
  st : PySem.W.kitOne K (.type "str") (.type "tuple") = some false
  it : PySem.W.kitOne K (.type "int") (.type "tuple") = some false
  is_ : PySem.W.kitOne K (.type "int") (.type "str") = some false
  ib : PySem.W.kitOne K (.type "int") (.type "bool") = some false
  nt : PySem.W.kitOne K (.type "NoneType") (.type "tuple") = some false
theorem nd_kfd : (["k", "found", "due"] : List Str).Nodup := by decide +kernel
theorem ok_same0 {f : Addr} {fd : FuncData} (F : Fun K "_law_same" "_law_same" sSame f fd) (misi : mg "isinstance" = none) (mtup : mg "tuple" = none) (mstr : mg "str" = none) (mint : mg "int" = none) (mbool : mg "bool" = none) (kk : Kinds K) : FnOk P w K mg base CX0 1 f fd ["found", "due"] (spSame 0) := by
  refine Fun.okR F scSame (fun vs H Q E h => ?_) (fun cdv A outer s H vs Q Q2 E hr h hq => ?_)
  · obtain ⟨x, y, rfl, _⟩ := h
    rfl
  · obtain ⟨x, y, rfl, hs, q⟩ := h
    refine ⟨_, pss_cons (ps_if (pt_val (pe_callB call_isi (by rfl) misi boot_isinstance (pa_cons (pv 1) (pa_cons (pe_bltn (v := .ty "tuple") (by rfl) mtup boot_tuple rfl) pa_nil)))) pss_never pss_nil)
      (pss_cons (ps_if (pt_cmpR op_isN (pv 1) pe_non (nomark _)) (pss_one (ps_ret (pe_cmpR op_isN (pv 0) pe_non (nomark _)))) pss_nil)
      (pss_cons (ps_if (pt_val (pe_callB call_isi (by rfl) misi boot_isinstance (pa_cons (pv 1) (pa_cons (pe_bltn (v := .ty "str") (by rfl) mstr boot_str rfl) pa_nil)))) (pss_one (ps_ret (pe_and (pe_callB call_isi (by rfl) misi boot_isinstance (pa_cons (pv 0) (pa_cons (pe_bltn (v := .ty "str") (by rfl) mstr boot_str rfl) pa_nil))) (pe_one (pe_cmpR op_eq (pv 0) (pv 1) (nomark _)))))) pss_nil)
      (pss_one (ps_ret (pe_and (pe_callB call_isi (by rfl) misi boot_isinstance (pa_cons (pv 0) (pa_cons (pe_bltn (v := .ty "int") (by rfl) mint boot_int rfl) pa_nil))) (pe_and (pe_not (pe_callB call_isi (by rfl) misi boot_isinstance (pa_cons (pv 0) (pa_cons (pe_bltn (v := .ty "bool") (by rfl) mbool boot_bool rfl) pa_nil)))) (pe_one (pe_cmpR op_eq (pv 0) (pv 1) (nomark _))))))))), ?_⟩
    have go : Q2 (.bl true) H := hq _ _ (Rst.same (Same.refl H) q)
    rcases hs with ⟨z, rfl, rfl⟩ | ⟨n, rfl, rfl⟩ | ⟨rfl, rfl⟩
    · refine ⟨_, rfl, _, _, _, _, rfl, .str _, kk.st, _, rfl, iteF ?_⟩
      refine ⟨_, rfl, rfl, _, rfl, iteK (fun z => nomatch z) ?_⟩
      refine ⟨_, rfl, _, _, _, _, rfl, .str _, kit_same _, _, rfl, iteT ?_⟩
      refine ⟨_, rfl, _, _, _, _, rfl, .str _, kit_same _, true, rfl, iteT ⟨_, rfl, _, rfl, rfl, ?_⟩⟩
      rw [decide_eq_true rfl]
      exact go
    · refine ⟨_, rfl, _, _, _, _, rfl, .int _, kk.it, _, rfl, iteF ?_⟩
      refine ⟨_, rfl, rfl, _, rfl, iteK (fun z => nomatch z) ?_⟩
      refine ⟨_, rfl, _, _, _, _, rfl, .int _, kk.is_, _, rfl, iteF ?_⟩
      refine ⟨_, rfl, _, _, _, _, rfl, .int _, kit_same _, true, rfl, iteT ?_⟩
      refine ⟨_, rfl, _, _, _, _, rfl, .int _, kk.ib, false, rfl, true, rfl, iteT ⟨_, rfl, _, rfl, rfl, ?_⟩⟩
      rw [decide_eq_true rfl]
      exact go
    · refine ⟨_, rfl, _, _, _, _, rfl, .non, kk.nt, _, rfl, iteF ?_⟩
      refine ⟨_, rfl, rfl, _, rfl, iteY rfl ⟨_, rfl, rfl, ?_⟩⟩
      rw [decide_eq_true rfl]
      exact go
theorem ok_sameT {n : Nat} {f : Addr} {fd : FuncData} (F : Fun K "_law_same" "_law_same" sSame f fd) (D : Dfn K mg "_law_same" sSame f fd ["found", "due"]) (G : FnOk P w K mg base CX0 (n + 1) f fd ["found", "due"] (spSame n)) (misi : mg "isinstance" = none) (mtup : mg "tuple" = none) (mlen : mg "len" = none) (mrange : mg "range" = none) (mall : mg "all" = none) (kk : Kinds K) : FnOk P w K mg base CX0 (n + 2) f fd ["found", "due"] (spSameT n) := by
  refine Fun.okR F scSame (fun vs H Q E h => ?_) (fun cdv A outer s H vs Q Q2 E hr h hq => ?_)
  · obtain ⟨p, r, xs, ys, rfl, _⟩ := h
    rfl
  · obtain ⟨p, r, xs, ys, rfl, hp, hr2, hl, hn, hs, q⟩ := h
    refine ⟨_, pss_cons (ps_if (pt_val (pe_callB call_isi (by rfl) misi boot_isinstance (pa_cons (pv 1) (pa_cons (pe_bltn (v := .ty "tuple") (by rfl) mtup boot_tuple rfl) pa_nil)))) (pss_cons (ps_if (pw_or (pt_not (pt_val (pe_callB call_isi (by rfl) misi boot_isinstance (pa_cons (pv 0) (pa_cons (pe_bltn (v := .ty "tuple") (by rfl) mtup boot_tuple rfl) pa_nil))))) (pw_or1 (pt_cmpR op_ne (pe_callB call_len_seq (by rfl) mlen PySem.boot_len (pa_cons (pv 0) pa_nil)) (pe_callB call_len_seq (by rfl) mlen PySem.boot_len (pa_cons (pv 1) pa_nil)) (nomark _)))).pt (pss_one (ps_ret pe_bl)) pss_nil)
      (pss_one (ps_ret (pe_callB (call_all rfl) (by rfl) mall boot_all (pa_cons (pe_comp (Nc := ["k", "found", "due"]) (mp := [none, some 0, some 1]) rfl (CompOk.of (by rfl)) (pi_range1 (by rfl) mrange (pa_cons (pe_callB call_len_seq (by rfl) mlen PySem.boot_len (pa_cons (pv 1) pa_nil)) pa_nil))
        (fun cl C s H fp => ⟨pg_name (i := 0) nd_kfd rfl (Or.inl rfl), pts_nil, pe_call G hr (by rfl) D.at_ D.fn.kp D.bn .nil pass0 (pa_cons (pe_ix (ix_tupK (K := K) rfl) (pv 1) (pv 0) (fun _ _ => rfl)) (pa_cons (pe_ix (ix_tupK (K := K) rfl) (pv 2) (pv 0) (fun _ _ => rfl)) pa_nil))⟩)) pa_nil))))) pss_nil) pss_never, ?_⟩
    refine ⟨_, rfl, _, _, _, _, rfl, .tup hr2, kit_same _, _, rfl, iteT ?_⟩
    refine ⟨_, rfl, _, _, _, _, rfl, .tup hp, kit_same _, _, rfl, iteF ?_⟩
    refine ⟨_, rfl, p, _, rfl, .inr (SqT.of hp), _, rfl, r, _, rfl, .inr (SqT.of hr2), rfl, _, rfl, iteNS (by rw [hl]) ?_⟩
    refine ⟨_, rfl, r, _, rfl, .inr (SqT.of hr2), _, rfl, (by omega), (by omega), ?_⟩
    rw [Int.toNat_natCast]
    refine comp_map (as := List.range ys.length) (v := fun k => .int (0 + ((k : Nat) : Int))) (fun _ => .bl true) (src_range 0 _ H) (by rw [List.length_range]; exact few hn) (fun i hi kc hk => ?_) (fun D hD => ?_)
    · have hi := List.mem_range.mp hi
      have ei : (0 : Int) + ((i : Nat) : Int) = ((i : Nat) : Int) := by omega
      rw [ei]
      have hx : i < xs.length := by omega
      have e1 : atI xs ((i : Nat) : Int) = some xs[i] := atI_nat (List.getElem?_eq_getElem hx)
      have e2 : atI ys ((i : Nat) : Int) = some ys[i] := atI_nat (List.getElem?_eq_getElem hi)
      exact ⟨_, rfl, _, rfl, p, _, _, _, rfl, rfl, SqT.of hp, e1, _, rfl, _, rfl, r, _, _, _, rfl, rfl, SqT.of hr2, e2, _, _, rfl, hs i _ _ (List.getElem?_eq_getElem hx) (List.getElem?_eq_getElem hi), hk⟩
    · have hm : (List.range ys.length).map (fun _ => V.bl true) = (List.replicate ys.length true).map V.bl := by
        rw [List.map_replicate]
        exact List.eq_replicate_iff.mpr ⟨by rw [List.length_map, List.length_range], fun b hb => by obtain ⟨_, _, e⟩ := List.mem_map.mp hb; exact e.symm⟩
      refine ⟨D, List.replicate ys.length true, rfl, SqL.of (by rw [upd_same, hm]), ?_⟩
      have ht : (List.replicate ys.length true).all id = true := List.all_eq_true.mpr fun b hb => by rw [List.eq_of_mem_replicate hb]; rfl
      rw [ht]
      exact hq _ _ (Rst.same (same_upd hD) q)
theorem ok_same {f : Addr} {fd : FuncData} (F : Fun K "_law_same" "_law_same" sSame f fd) (D : Dfn K mg "_law_same" sSame f fd ["found", "due"]) (misi : mg "isinstance" = none) (mtup : mg "tuple" = none) (mstr : mg "str" = none) (mint : mg "int" = none) (mbool : mg "bool" = none) (mlen : mg "len" = none) (mrange : mg "range" = none) (mall : mg "all" = none) (kk : Kinds K) : ∀ n : Nat, FnOk P w K mg base CX0 (n + 1) f fd ["found", "due"] (spSame n)
  | 0 => ok_same0 F misi mtup mstr mint mbool kk
  | n + 1 => by
    have G := ok_same F D misi mtup mstr mint mbool mlen mrange mall kk n
    refine FnOk.or2 (G.mono (by omega)) (ok_sameT F D G misi mtup mlen mrange mall kk) fun vs H Q E h => ?_
    obtain ⟨x, y, rfl, hs, q⟩ := h
    rcases hs with h | ⟨p, r, xs, ys, rfl, rfl, h⟩
    · exact .inl ⟨x, y, rfl, h, q⟩
    · exact .inr ⟨p, r, xs, ys, rfl, h.1, h.2.1, h.2.2.1, h.2.2.2.1, h.2.2.2.2, q⟩
theorem nd_rce : (["row", "column", "entry"] : List Str).Nodup := by decide +kernel
theorem ent_eqV {x y : V} (h : Ent x) (h2 : Ent y) : eqV x y = decide (x = y) := by
  rcases h with rfl | ⟨z, _, rfl⟩ <;> rcases h2 with rfl | ⟨u, _, rfl⟩
  · rfl
  · rfl
  · rfl
  · show decide (z = u) = decide (V.str z = V.str u)
    by_cases e : z = u
    · subst e; rw [decide_eq_true rfl, decide_eq_true rfl]
    · rw [decide_eq_false e, decide_eq_false (fun q => e (V.str.inj q))]
theorem ent_inV {x : V} {us : List V} (hx : Ent x) (hU : ∀ e ∈ us, Ent e) : inV x us = decide (x ∈ us) := by
  unfold inV
  rw [Bool.eq_iff_iff, decide_eq_true_iff, List.any_eq_true]
  constructor
  · rintro ⟨y, hy, e⟩
    rw [ent_eqV (hU y hy) hx, decide_eq_true_iff] at e
    exact e ▸ hy
  · intro h
    exact ⟨x, h, by rw [ent_eqV hx hx]; exact decide_eq_true rfl⟩
def spRd : Sp := fun vs H Q _ => ∃ (p : Addr) (es : List V), vs = [.ref p] ∧ H p = some (.tup es) ∧ (∀ e ∈ es, Ent e) ∧ 1 ≤ es.length ∧ es.length ≤ 30 ∧
  ∀ (H' : Hp) (r : Addr) (xs : List (Addr × Rdg)), Same H H' → H' r = some (.tup (xs.map fun y => V.ref y.1)) → (∀ y ∈ xs, RdgAt H' y.1 y.2) → (xs.map fun y => y.2) = rdgsOf es → Q (.ref r) H'
theorem scRd : FnScope ["column", "entries", "entry", "found"] ["column"] (defScope sRd) := ⟨rfl, rfl, rfl, by decide +kernel, rfl, by decide +kernel, by decide +kernel⟩
theorem ok_rd {f : Addr} {fd : FuncData} (F : Fun K "_law_readings_of" "_law_readings_of" sRd f fd) (mlen : mg "len" = none) (mrange : mg "range" = none) (mtup : mg "tuple" = none) : FnOk P w K mg base CX0 1 f fd ["column"] spRd := by
  refine F.ok scRd (fun vs H Q E h => ?_) (fun cdv A outer s H vs Q E hr h => ?_)
  · obtain ⟨p, es, rfl, _⟩ := h
    rfl
  · obtain ⟨p, es, rfl, hp, hE, h1, h30, q⟩ := h
    refine ⟨_, pss_cons (ps_set (i := 1) scRd.nd rfl (Or.inl rfl) (pe_lst pa_nil))
      (pss_cons (ps_for PassesOwn.never rfl (pi_tup (pv 0)) (pg_name (i := 2) scRd.nd rfl (Or.inr rfl))
        (pss_one (ps_if (pw_and (pt_cmpR op_ne (pv 2) (pe_ix ix_tup (pv 0) pe_int (fun _ _ => rfl)) (nomark _)) (pw_and1 (pt_cmpR op_notIn_seq (pv 2) (pv 1) (by with_unfolding_all rfl)))).pt (pss_one (ps_expr (pe_bm PySem.F.plainAttrs_list PySem.F.slot_list_append PySem.F.type_list_append mt_append (pv 1) (pa_cons (pv 2) pa_nil)))) pss_nil)))
      (pss_cons (ps_set (i := 3) scRd.nd rfl (Or.inl rfl) (pe_lst pa_nil))
      (pss_cons (ps_for PassesOwn.never rfl (pi_list (pv 1)) (pg_name (i := 2) scRd.nd rfl (Or.inr rfl))
        (pss_one (ps_expr (pe_bm PySem.F.plainAttrs_list PySem.F.slot_list_append PySem.F.type_list_append mt_append (pv 3) (pa_cons (pe_tup (pa_cons (pv 2) (pa_cons (pe_callTy call_tuple_of (by rfl) mtup boot_tuple (pa_cons (pe_comp (Nc := ["row", "column", "entry"]) (mp := [none, some 0, some 2]) rfl (CompOk.of (by rfl)) (pi_range1 (by rfl) mrange (pa_cons (pe_callB call_len_seq (by rfl) mlen PySem.boot_len (pa_cons (pv 0) pa_nil)) pa_nil))
          (fun cl C s H fp => ⟨pg_name (i := 0) nd_rce rfl (Or.inl rfl), pts_one (pt_cmpR op_eq (pe_ix (ix_tupK (K := K) rfl) (pv 1) (pv 0) (fun _ _ => rfl)) (pv 2) (nomark _)), pv 0⟩)) pa_nil)) pa_nil))) pa_nil)))))
      (pss_one (ps_ret (pe_callTy call_tuple_of (by rfl) mtup boot_tuple (pa_cons (pv 3) pa_nil))))))), ?_⟩
    have h0 : atI es 0 = some (es.getD 0 .non) := atI_nat (j := 0) (by rw [List.getD_eq_getElem?_getD, List.getElem?_eq_getElem (by omega)]; rfl)
    have hE0 : Ent (es.getD 0 .non) := by rw [List.getD_eq_getElem?_getD, List.getElem?_eq_getElem (by omega)]; exact hE _ (List.getElem_mem _)
    refine ⟨Nat.zero_le _, fun l hl => ?_⟩
    have S0 := same_upd (o := .lst []) hl
    have hp0 := S0 _ _ hp
    refine ⟨_, rfl, p, rfl, ⟨_, SqT.of hp0⟩, for_tup (K := K) (a := p) (xs := es) (fun i σ H2 => ∃ (v2 v3 : Option V), σ = [some (.ref p), some (.ref l), v2, v3] ∧ H2 l = some (.lst (entTo es i)) ∧ Same H H2)
      ⟨none, none, rfl, upd_same, S0⟩ (fun i σ H2 _ ⟨_, _, _, _, S⟩ => SqT.of (S _ _ hp)) ?_ ?_⟩
    · rintro i x σ H2 hi ⟨v2, v3, rfl, h2, S2⟩
      have hx : Ent x := hE x (List.mem_of_getElem? hi)
      have hi' : i < es.length := (List.getElem?_eq_some_iff.mp hi).1
      have hU : ∀ e ∈ entTo es i, Ent e := fun e he => hE e (entTo_mem i he).1
      have hul := entTo_len es i
      have est := entTo_step hi
      unfold entStep at est
      refine ⟨_, rfl, _, rfl, p, _, _, _, rfl, rfl, SqT.of (S2 _ _ hp), h0, ent_scal hx hE0, _, rfl, ?_⟩
      by_cases c : x = es.getD 0 .non
      · rw [if_pos c] at est
        rw [decide_eq_true (show x = es.getD 0 .non from c)]
        exact iteF ⟨_, _, rfl, by rw [est]; exact h2, S2⟩
      rw [if_neg c] at est
      rw [decide_eq_false (show ¬ x = es.getD 0 .non from c)]
      refine iteT ?_
      refine ⟨_, rfl, _, rfl, l, _, rfl, .inl (SqL.of h2), ent_flat hx, List.all_eq_true.mpr (fun e he => ent_flat (hU e he)), _, rfl, ?_⟩
      show ite ((!inV x (entTo es i)) = true) _ _
      rw [ent_inV hx hU]
      by_cases c2 : x ∈ entTo es i
      · rw [if_pos c2] at est
        rw [decide_eq_true c2]
        exact iteF ⟨_, _, rfl, by rw [est]; exact h2, S2⟩
      rw [if_neg c2] at est
      rw [decide_eq_false c2]
      refine iteT ?_
      exact ⟨_, rfl, .inl ⟨rfl, _, SqL.of h2⟩, _, rfl, l, _, _, rfl, rfl, h2, fewer (by omega), _, _, rfl, by rw [upd_same, est], same_to S2 hl⟩
    · rintro σ H2 ⟨v2, v3, rfl, h2, S2⟩
      have hul := entTo_len es es.length
      have hU : ∀ e ∈ entTo es es.length, Ent e := fun e he => hE e (entTo_mem _ he).1
      have hok : ∀ x ∈ entTo es es.length, RdgOk (x, rowsTo es x es.length) := fun x hx => rdgs_ok hE h30 hx
      have hrd : rdgsOf es = (entTo es es.length).map fun x => (x, rowsTo es x es.length) := rfl
      generalize entTo es es.length = us at h2 hul hU hok hrd
      refine ⟨Nat.zero_le _, fun m hm => ?_⟩
      have S3 := same_upd (o := .lst []) hm
      have hu3 := S3 _ _ h2
      have hmn := S2.free hm
      have hml : l ≠ m := ne_of_none h2 hm
      refine ⟨_, rfl, l, rfl, ⟨_, SqL.of hu3⟩, for_list (K := K) (a := l) (xs := us) (fun i σ H4 => ∃ (xs : List (Addr × Rdg)) (v2 : Option V), σ = [some (.ref p), some (.ref l), v2, some (.ref m)] ∧ H4 m = some (.lst (xs.map fun y => V.ref y.1)) ∧ H4 l = some (.lst us) ∧ Same H H4 ∧ (xs.map fun y => y.2) = (us.take i).map (fun x => (x, rowsTo es x es.length)) ∧ ∀ y ∈ xs, RdgAt H4 y.1 y.2)
        ⟨[], v2, rfl, upd_same, hu3, S2.trans S3, rfl, fun _ z => nomatch z⟩ (fun i σ H4 _ ⟨_, _, _, _, h, _⟩ => SqL.of h) ?_ ?_⟩
      · rintro i x σ H4 hi ⟨xs, v2, rfl, h4, hl4, S4, hxe, hX⟩
        have hxm := List.mem_of_getElem? hi
        have hx : Ent x := hU x hxm
        have hi' : i < us.length := (List.getElem?_eq_some_iff.mp hi).1
        have hxl : xs.length ≤ i := by
          have := congrArg List.length hxe
          rw [List.length_map, List.length_map, List.length_take] at this
          omega
        have hp4 := S4 _ _ hp
        refine ⟨_, rfl, .inl ⟨rfl, _, SqL.of h4⟩, _, rfl, _, rfl, p, _, rfl, .inr (SqT.of hp4), _, rfl, by omega, by omega, ?_⟩
        rw [Int.toNat_natCast]
        refine comp_pure (as := List.range es.length) (v := fun k => .int (0 + ((k : Nat) : Int))) (fun k => decide (es.getD k .non = x)) (fun k => .int (0 + ((k : Nat) : Int))) (src_range 0 _ H4) (by rw [List.length_range]; exact few (by omega)) (fun k hk kc hkc => ?_) (fun k hk _ kc hkc => ⟨_, rfl, hkc⟩) fun D hD => ?_
        · have hk' := List.mem_range.mp hk
          have ek : (0 : Int) + ((k : Nat) : Int) = ((k : Nat) : Int) := by omega
          rw [ek]
          have e1 : atI es ((k : Nat) : Int) = some (es.getD k .non) := atI_nat (by rw [List.getD_eq_getElem?_getD, List.getElem?_eq_getElem hk']; rfl)
          refine ⟨_, rfl, _, rfl, p, _, _, _, rfl, rfl, SqT.of hp4, e1, _, rfl, ent_scal (hE _ ?_) hx, _, rfl, hkc⟩
          rw [List.getD_eq_getElem?_getD, List.getElem?_eq_getElem hk']
          exact List.getElem_mem hk'
        · have hrl := (hok x hxm).2.1
          have em : ((List.range es.length).filter (fun k => decide (es.getD k .non = x))).map (fun k => V.int (0 + ((k : Nat) : Int))) = (rowsTo es x es.length).map natV := by
            refine List.map_congr_left fun k _ => ?_
            show V.int (0 + ((k : Nat) : Int)) = V.int ((k : Nat) : Int)
            rw [Int.zero_add]
          rw [em]
          have hok' := hok x hxm
          have etk : (us.take (i + 1)).map (fun x => (x, rowsTo es x es.length)) = (us.take i).map (fun x => (x, rowsTo es x es.length)) ++ [(x, rowsTo es x es.length)] := by
            rw [List.take_add_one, hi, List.map_append]
            rfl
          generalize rowsTo es x es.length = rows at hrl hok' etk
          have S5 := same_upd (o := .lst (rows.map natV)) hD
          refine ⟨D, _, rfl, .inl ⟨SqL.of upd_same, fun t6 ht6 => ?_⟩⟩
          have S6 := same_upd (o := .tup (rows.map natV)) ht6
          refine ⟨few (by show 2 ≤ _; omega), fun t7 ht7 => ?_⟩
          have S7 := same_upd (o := .tup [x, .ref t6]) ht7
          have S57 := (S5.trans S6).trans S7
          have h7 : upd (upd (upd H4 D (.lst (rows.map natV))) t6 (.tup (rows.map natV))) t7 (.tup [x, .ref t6]) t7 = some (.tup [x, .ref t6]) := upd_same
          have h76 := S7 _ _ (upd_same (H := upd H4 D (.lst (rows.map natV))) (a := t6) (o := .tup (rows.map natV)))
          generalize upd (upd (upd H4 D (.lst (rows.map natV))) t6 (.tup (rows.map natV))) t7 (.tup [x, .ref t6]) = H7 at S57 h7 h76
          have hm7 := S57 _ _ h4
          have hl7 := S57 _ _ hl4
          have keep : ∀ {a : Addr} {ys zs : List V}, H7 a = some (.tup ys) → upd H7 m (.lst zs) a = some (.tup ys) := fun {a ys zs} h => by
            rw [upd_ne (ne_of h hm7 (by intro z; cases z))]; exact h
          have kr : ∀ {a : Addr} {y : Rdg} {zs : List V}, RdgAt H7 a y → RdgAt (upd H7 m (.lst zs)) a y := fun {a y zs} h => by
            obtain ⟨ho, r, h1, h2⟩ := h
            exact ⟨ho, r, keep h1, keep h2⟩
          refine ⟨m, _, _, rfl, rfl, hm7, (by rw [List.length_map]; exact fewer (by omega)), xs ++ [(t7, (x, rows))], _, rfl, by rw [upd_same, List.map_append]; rfl, by rw [upd_ne hml]; exact hl7, same_to (S4.trans S57) hmn, by rw [etk, List.map_append, hxe]; rfl, fun y hy => ?_⟩
          rcases List.mem_append.mp hy with hy | hy
          · exact kr ((hX y hy).mono S57)
          · rw [List.mem_singleton.mp hy]
            exact kr ⟨hok', t6, h7, h76⟩
      · rintro σ H4 ⟨xs, v2, rfl, h4, hl4, S4, hxe, hX⟩
        refine ⟨_, rfl, m, _, rfl, .inl ⟨SqL.of h4, fun r hr' => ?_⟩⟩
        have S5 := same_upd (o := .tup (xs.map fun y => V.ref y.1)) hr'
        exact q _ r xs (S4.trans S5) upd_same (fun y hy => (hX y hy).mono S5) (by rw [hxe, List.take_length, hrd])
def pureC (cs : List (Addr × List V)) : List (List V) := cs.map fun x => x.2
theorem pureC_at {cs : List (Addr × List V)} {i : Nat} (hi : i < cs.length) : (pureC cs).getD i [] = cs[i].2 := by
  unfold pureC
  rw [List.getD_eq_getElem?_getD, List.getElem?_map, List.getElem?_eq_getElem hi]
  rfl
def spNts (K : PySem.W.Frag) : Sp := fun vs H Q _ => ∃ (p : Addr) (cs : List (Addr × List V)) (m : Nat), vs = [.ref p] ∧ SqT K H p (cs.map fun x => V.ref x.1) ∧ ColsAt H cs m ∧ 1 ≤ m ∧ m ≤ 30 ∧ cs.length ≤ 1200 ∧
  ∀ (H' : Hp) (r : Addr) (ns : List (Addr × Note)), Same H H' → H' r = some (.tup (ns.map fun y => V.ref y.1)) → (∀ y ∈ ns, NoteAt H' y.1 y.2) → (ns.map fun y => toldN y.2) = notesTo (pureC cs) cs.length → Q (.ref r) H'
theorem scNts : FnScope ["columns", "found", "number", "readings"] ["columns"] (defScope sNts) := ⟨rfl, rfl, rfl, by decide +kernel, rfl, by decide +kernel, by decide +kernel⟩
theorem eqs_empty {K : PySem.W.Frag} {H : Hp} {p r : Addr} {as : List V} (h1 : H p = some (.tup as)) (h2 : H r = some (.tup [])) : EqS K H 0 (.ref p) (.ref r) (decide (as = [])) := by
  refine ⟨p, r, _, _, fun _ => true, rfl, rfl, .inr ⟨SqT.of h1, SqT.of h2⟩, fun i x y _ hy => by simp at hy, ?_⟩
  cases as with
  | nil => rfl
  | cons a t => rfl
theorem notesTo_len (cs : List (List V)) (n : Nat) : (notesTo cs n).length ≤ n := by
  unfold notesTo
  exact Nat.le_trans (List.length_filter_le _ _) (by rw [List.length_map, List.length_range]; exact Nat.le_refl _)
theorem rdgsOf_len (es : List V) : (rdgsOf es).length ≤ es.length := by
  unfold rdgsOf
  rw [List.length_map]
  exact entTo_len es es.length
theorem ok_nts {f gR : Addr} {fd dR : FuncData} (F : Fun K "_law_notes_of" "_law_notes_of" sNts f fd) (DR : Dfn K mg "_law_readings_of" sRd gR dR ["column"]) (mlen : mg "len" = none) (mrange : mg "range" = none) (mtup : mg "tuple" = none) : FnOk P w K mg base CX0 2 f fd ["columns"] (spNts K) := by
  have GR : FnOk P w K mg base CX0 1 gR dR ["column"] spRd := ok_rd DR.fn mlen mrange mtup
  refine F.ok scNts (fun vs H Q E h => ?_) (fun cdv A outer s H vs Q E hr h => ?_)
  · obtain ⟨p, cs, m, rfl, _⟩ := h
    rfl
  · obtain ⟨p, cs, m, rfl, hp, hC, m1, m30, hcl, q⟩ := h
    refine ⟨_, pss_cons (ps_set (i := 1) scNts.nd rfl (Or.inl rfl) (pe_lst pa_nil))
      (pss_cons (ps_for PassesOwn.never rfl (pi_range1 (by rfl) mrange (pa_cons (pe_callB call_len_seq (by rfl) mlen PySem.boot_len (pa_cons (pv 0) pa_nil)) pa_nil)) (pg_name (i := 2) scNts.nd rfl (Or.inl rfl))
        (pss_cons (ps_set (i := 3) scNts.nd rfl (Or.inl rfl) (pe_call GR hr (by rfl) DR.at_ DR.fn.kp DR.bn .nil pass0 (pa_cons (pe_ix ix_tup (pv 0) (pv 2) (fun _ _ => rfl)) pa_nil)))
        (pss_one (ps_if (pt_cmpR (op_neS hr.units) (pv 3) (pe_tup pa_nil) (nomark _)) (pss_one (ps_expr (pe_bm PySem.F.plainAttrs_list PySem.F.slot_list_append PySem.F.type_list_append mt_append (pv 1) (pa_cons (pe_tup (pa_cons (pv 2) (pa_cons (pv 3) pa_nil))) pa_nil)))) pss_nil))))
      (pss_one (ps_ret (pe_callTy call_tuple_of (by rfl) mtup boot_tuple (pa_cons (pv 1) pa_nil))))), ?_⟩
    refine ⟨Nat.zero_le _, fun l hl => ?_⟩
    have S0 := same_upd (o := .lst []) hl
    refine ⟨_, rfl, p, _, rfl, .inr (sameT S0 hp), _, rfl, by omega, by rw [List.length_map]; omega, ?_⟩
    rw [Int.toNat_natCast, List.length_map]
    refine for_range (n := cs.length) (fun i σ H2 => ∃ (ns : List (Addr × Note)) (v2 v3 : Option V), σ = [some (.ref p), some (.ref l), v2, v3] ∧ H2 l = some (.lst (ns.map fun y => V.ref y.1)) ∧ Same H H2 ∧ (ns.map fun y => toldN y.2) = notesTo (pureC cs) i ∧ ∀ y ∈ ns, NoteAt H2 y.1 y.2)
      ⟨[], none, none, rfl, upd_same, S0, rfl, fun _ z => nomatch z⟩ ?_ ?_
    · rintro i σ H2 hi ⟨ns, v2, v3, rfl, h2, S2, hne, hN⟩
      have ei : (0 : Int) + ((i : Nat) : Int) = ((i : Nat) : Int) := by omega
      rw [ei]
      have hnl : ns.length ≤ i := by
        have h1 := congrArg List.length hne
        rw [List.length_map] at h1
        have h2 := notesTo_len (pureC cs) i
        omega
      have hm := List.getElem_mem hi
      obtain ⟨hc1, hc2, hc3⟩ := (hC.mono S2) cs[i] hm
      have est := notesTo_step (pureC cs) i
      rw [pureC_at hi] at est
      have ea : atI (cs.map fun x => V.ref x.1) ((i : Nat) : Int) = some (.ref cs[i].1) := atI_nat (by rw [List.getElem?_map, List.getElem?_eq_getElem hi]; rfl)
      refine ⟨_, rfl, _, rfl, p, _, _, _, rfl, rfl, sameT S2 hp, ea, cs[i].1, cs[i].2, rfl, hc1, hc3, by omega, by omega, fun H3 r xs S3 h3 hX hxe => ?_⟩
      have hxl : xs.length ≤ 30 := by
        have h1 := congrArg List.length hxe
        rw [List.length_map] at h1
        have h2 := rdgsOf_len cs[i].2
        omega
      refine ⟨_, rfl, Nat.zero_le _, fun t ht => ⟨0, _, by decide, eqs_empty ((same_upd ht) _ _ h3) upd_same, _, rfl, ?_⟩⟩
      have S4 := same_upd (o := .tup []) ht
      have S24 := S3.trans S4
      have h34 := S4 _ _ h3
      have hX4 : ∀ y ∈ xs, RdgAt (upd H3 t (.tup [])) y.1 y.2 := fun y hy => (hX y hy).mono S4
      generalize upd H3 t (.tup []) = H4 at S4 S24 h34 hX4
      have hl4 := S24 _ _ h2
      have hN4 : ∀ y ∈ ns, NoteAt H4 y.1 y.2 := fun y hy => (hN y hy).mono S24
      rw [← hxe] at est
      by_cases c : xs = []
      · rw [c, List.map_nil, if_pos rfl, List.append_nil] at est
        rw [decide_eq_true (show (xs.map fun y => V.ref y.1) = [] by rw [c]; rfl)]
        exact iteF ⟨ns, _, _, rfl, hl4, S2.trans S24, by rw [est]; exact hne, hN4⟩
      rw [if_neg (fun z => c (List.map_eq_nil_iff.mp z))] at est
      rw [decide_eq_false (fun z => c (List.map_eq_nil_iff.mp z))]
      refine iteT ?_
      refine ⟨_, rfl, .inl ⟨rfl, _, SqL.of hl4⟩, _, rfl, _, rfl, few (by show 2 ≤ _; omega), fun t5 ht5 => ?_⟩
      have S5 := same_upd (o := .tup [.int ((i : Nat) : Int), .ref r]) ht5
      have h5 : upd H4 t5 (.tup [.int ((i : Nat) : Int), .ref r]) t5 = some (.tup [natV i, .ref r]) := upd_same
      have S25 := (S2.trans S24).trans S5
      have hl5 := S5 _ _ hl4
      have h35 := S5 _ _ h34
      have hN5 : NoteAt (upd H4 t5 (.tup [.int ((i : Nat) : Int), .ref r])) t5 (i, xs) := ⟨by show i < 10000; omega, hxl, fun y hy => (hX4 y hy).mono S5, r, h5, h35⟩
      have hO5 : ∀ y ∈ ns, NoteAt (upd H4 t5 (.tup [.int ((i : Nat) : Int), .ref r])) y.1 y.2 := fun y hy => (hN4 y hy).mono S5
      generalize upd H4 t5 (.tup [.int ((i : Nat) : Int), .ref r]) = H5 at S25 hl5 hN5 hO5
      have keep : ∀ {a : Addr} {ys zs : List V}, H5 a = some (.tup ys) → upd H5 l (.lst zs) a = some (.tup ys) := fun {a ys zs} h => by
        rw [upd_ne (ne_of h hl5 (by intro z; cases z))]; exact h
      have kn : ∀ {a : Addr} {y : Note} {zs : List V}, NoteAt H5 a y → NoteAt (upd H5 l (.lst zs)) a y := fun {a y zs} h => by
        obtain ⟨h1, h2, h3, q, h4, h5⟩ := h
        refine ⟨h1, h2, fun y hy => ?_, q, keep h4, keep h5⟩
        obtain ⟨ho, r, k1, k2⟩ := h3 y hy
        exact ⟨ho, r, keep k1, keep k2⟩
      refine ⟨l, _, _, rfl, rfl, hl5, (by rw [List.length_map]; exact fewer (by omega)), ns ++ [(t5, (i, xs))], _, _, rfl, by rw [upd_same, List.map_append]; rfl, same_to S25 hl, by rw [est, List.map_append, hne]; rfl, fun y hy => ?_⟩
      rcases List.mem_append.mp hy with hy | hy
      · exact kn (hO5 y hy)
      · rw [List.mem_singleton.mp hy]; exact kn hN5
    · rintro σ H2 ⟨ns, v2, v3, rfl, h2, S2, hne, hN⟩
      refine ⟨_, rfl, l, _, rfl, .inl ⟨SqL.of h2, fun r hr' => ?_⟩⟩
      have S5 := same_upd (o := .tup (ns.map fun y => V.ref y.1)) hr'
      exact q _ r ns (S2.trans S5) upd_same (fun y hy => (hN y hy).mono S5) hne
theorem scRdf : FnScope ["column", "readings", "row", "entry"] ["column"] (defScope sRdf) := ⟨rfl, rfl, rfl, by decide +kernel, rfl, by decide +kernel, by decide +kernel⟩
theorem tup_dn {P : Program} {w : World} {H : Hp} {a d : Addr} {xs : List V} {kvs : List (Option Str × V)} (h : H a = some (.tup xs)) (h2 : H d = some (DN P w d kvs)) : a ≠ d := ne_of h h2 (fun z => nomatch (show HO.tup xs = HO.ext _ from z))
def spReadingsL : Sp := fun vs H Q _ => ∃ (p : Addr) (es : List V), vs = [.ref p] ∧ H p = some (.lst es) ∧ (∀ e ∈ es, Ent e) ∧ 1 ≤ es.length ∧ es.length ≤ 30 ∧
  ∀ (H' : Hp) (r : Addr) (xs : List (Addr × Rdg)), Same H H' → H' r = some (.tup (xs.map fun y => V.ref y.1)) → (∀ y ∈ xs, RdgAt H' y.1 y.2) → (xs.map fun y => y.2) = rdgsOf es → Q (.ref r) H'
theorem ok_readingsL {f : Addr} {fd : FuncData} (F : Fun K "readings_of" "readings_of" sRdf f fd) (mtup : mg "tuple" = none) (menum : mg "enumerate" = none) : FnOk P w K mg base CX0 1 f fd ["column"] spReadingsL := by
  refine F.ok scRdf (fun vs H Q E h => ?_) (fun cdv A outer s H vs Q E hr h => ?_)
  · obtain ⟨p, es, rfl, _⟩ := h
    rfl
  · obtain ⟨p, es, rfl, hp, hE, h1, h30, q⟩ := h
    refine ⟨_, pss_cons (ps_set (i := 1) scRdf.nd rfl (Or.inl rfl) pe_dnewN)
      (pss_cons (ps_for PassesOwn.never rfl (pi_enumL (by rfl) menum (pa_cons (pv 0) pa_nil)) (pg_tup (n := 2) rfl (pgs_cons (pg_name (i := 2) scRdf.nd rfl (Or.inl rfl)) (pgs_cons (pg_name (i := 3) scRdf.nd rfl (Or.inl rfl)) pgs_nil)))
      (pss_one (ps_if (pt_cmpR op_ne (pv 3) (pe_ix ix_list (pv 0) pe_int (fun _ _ => rfl)) (nomark _)) (pss_one (ps_asg (pe_op op_catH (pe_bmN PySem.F.slot_dict_get PySem.F.type_dict_get mt_dgetN (pv 1) (pa_cons (pv 3) (pa_cons (pe_tup pa_nil) pa_nil))) (pe_tup (pa_cons (pv 2) pa_nil))) (pg_sub (pv 1) (pv 3) set_dictN))) pss_nil)))
      (pss_one (ps_ret (pe_callTy (call_tuple_view rfl) (by rfl) mtup boot_tuple (pa_cons (pe_bmN0 PySem.F.slot_dict_items PySem.F.type_dict_items mt_itemsN (pv 1)) pa_nil))))), ?_⟩
    have h0 : atI es 0 = some (es.getD 0 .non) := atI_nat (j := 0) (by rw [List.getD_eq_getElem?_getD, List.getElem?_eq_getElem (by omega)]; rfl)
    have hE0 : Ent (es.getD 0 .non) := by rw [List.getD_eq_getElem?_getD, List.getElem?_eq_getElem (by omega)]; exact hE _ (List.getElem_mem _)
    refine fun d hd => ?_
    have S0 := same_upd (o := DN P w d []) hd
    have hp0 := S0 _ _ hp
    refine ⟨_, rfl, p, rfl, ⟨_, SqL.of hp0⟩, for_enumL (K := K) (a := p) (xs := es) (fun i σ H2 => ∃ (ps : List (V × Addr)) (v2 v3 : Option V), σ = [some (.ref p), some (.ref d), v2, v3] ∧ H2 d = some (DN P w d (dnOf ps)) ∧ (ps.map fun q => q.1) = entTo es i ∧ (∀ q ∈ ps, H2 q.2 = some (.tup ((rowsTo es q.1 i).map natV))) ∧ Same H H2)
      ⟨[], none, none, rfl, upd_same, rfl, (fun _ z => nomatch z), S0⟩ (fun i σ H2 _ ⟨_, _, _, _, _, _, _, S⟩ => SqL.of (S _ _ hp)) ?_ ?_⟩
    · rintro i x σ H2 T hi ⟨ps, v2, v3, rfl, h2d, hps, hA, S2⟩ hT
      have hx : Ent x := hE x (List.mem_of_getElem? hi)
      have hi' : i < es.length := (List.getElem?_eq_some_iff.mp hi).1
      have hP : ∀ q ∈ ps, Ent q.1 := fun q hq => hE q.1 (entTo_mem i (hps ▸ List.mem_map.mpr ⟨q, hq, rfl⟩)).1
      have hpl : ps.length ≤ i := by
        have h1 := congrArg List.length hps
        rw [List.length_map] at h1
        have h2 := entTo_len es i
        omega
      have hgi : es.getD i .non = x := by rw [List.getD_eq_getElem?_getD, hi]; rfl
      have est := entTo_step hi
      unfold entStep at est
      have T1 := same_upd (o := .tup [.int ((i : Nat) : Int), x]) hT
      have hTT : upd H2 T (.tup [.int ((i : Nat) : Int), x]) T = some (.tup [.int ((i : Nat) : Int), x]) := upd_same
      have S3 := S2.trans T1
      have h3d := T1 _ _ h2d
      have hA3 : ∀ q ∈ ps, upd H2 T (.tup [.int ((i : Nat) : Int), x]) q.2 = some (.tup ((rowsTo es q.1 i).map natV)) := fun q hq => T1 _ _ (hA q hq)
      generalize upd H2 T (.tup [.int ((i : Nat) : Int), x]) = H3 at T1 hTT S3 h3d hA3
      refine ⟨T, _, rfl, SqT.of hTT, rfl, _, _, rfl, _, _, rfl, rfl, ?_⟩
      refine ⟨_, rfl, _, rfl, p, _, _, _, rfl, rfl, SqL.of (S3 _ _ hp), h0, ent_scal hx hE0, _, rfl, ?_⟩
      have other : ∀ y, y ≠ x → rowsTo es y (i + 1) = rowsTo es y i := fun y hy => by rw [rowsTo_step, if_neg (fun z : es.getD i .non = y => hy (z.symm.trans hgi)), List.append_nil]
      by_cases c : x = es.getD 0 .non
      · rw [if_pos c] at est
        rw [decide_eq_true (show x = es.getD 0 .non from c)]
        refine iteF ⟨ps, _, _, rfl, h3d, by rw [est]; exact hps, fun q hq => ?_, S3⟩
        have hne : q.1 ≠ x := fun e => (entTo_mem i (hps ▸ List.mem_map.mpr ⟨q, hq, rfl⟩)).2 (e.trans c)
        rw [other _ hne]
        exact hA3 q hq
      rw [if_neg c] at est
      rw [decide_eq_false (show ¬ x = es.getD 0 .non from c)]
      refine iteT ?_
      refine ⟨_, rfl, d, _, rfl, h3d, _, rfl, few (by show 0 ≤ _; omega), fun t0 ht0 => ?_⟩
      have T4 := same_upd (o := .tup []) ht0
      have h44 : upd H3 t0 (.tup []) t0 = some (.tup []) := upd_same
      have h4d := T4 _ _ h3d
      have hA4 : ∀ q ∈ ps, upd H3 t0 (.tup []) q.2 = some (.tup ((rowsTo es q.1 i).map natV)) := fun q hq => T4 _ _ (hA3 q hq)
      have S4 := S3.trans T4
      generalize upd H3 t0 (.tup []) = H4 at T4 h44 h4d hA4 S4
      refine ⟨d, _, vKey x, _, rfl, by rw [vKey_ent hx], h4d, ?_⟩
      obtain ⟨b, eb, hb⟩ : ∃ b, (valV (dnOf ps) (vKey x)).getD (.ref t0) = .ref b ∧ H4 b = some (.tup ((rowsTo es x i).map natV)) := by
        by_cases m : x ∈ ps.map (fun q => q.1)
        · obtain ⟨a, ha, e⟩ := dn_some hP hx m
          exact ⟨a, by rw [e]; rfl, hA4 _ ha⟩
        · refine ⟨t0, by rw [dn_none hP hx m]; rfl, ?_⟩
          rw [rows_none i (by omega) (hps ▸ m) c]
          exact h44
      rw [eb]
      refine ⟨_, rfl, few (by show 1 ≤ _; omega), fun t1 ht1 => ?_⟩
      have T5 := same_upd (o := .tup [V.int ((i : Nat) : Int)]) ht1
      have hrl := rowsTo_len es x i
      refine ⟨b, t1, _, _, rfl, rfl, T5 _ _ hb, upd_same, (by rw [List.length_map]; exact few (by show _ + 1 ≤ _; omega)), fun r H6 S6 h6 => ?_⟩
      have S46 := T5.trans S6
      have h6d := S46 _ _ h4d
      have S06 := S4.trans S46
      have hA6 : ∀ q ∈ ps, H6 q.2 = some (.tup ((rowsTo es q.1 i).map natV)) := fun q hq => S46 _ _ (hA4 q hq)
      have er : (rowsTo es x i).map natV ++ [V.int ((i : Nat) : Int)] = (rowsTo es x (i + 1)).map natV := by
        rw [rowsTo_step, if_pos hgi, List.map_append]
        rfl
      rw [er] at h6
      have hsame : ∀ kvs, Same H (upd H6 d (DN P w d kvs)) := fun kvs => same_to S06 hd
      have keep : ∀ {a : Addr} {ys : List V} {kvs : List (Option Str × V)}, H6 a = some (.tup ys) → upd H6 d (DN P w d kvs) a = some (.tup ys) := fun {a ys kvs} h => by
        rw [upd_ne (tup_dn h h6d)]; exact h
      refine ⟨_, rfl, _, rfl, d, _, vKey x, rfl, (vKey_ent hx).symm, h6d, (by unfold dnOf; rw [List.length_map]; exact fewer (by omega)), ?_⟩
      by_cases m : x ∈ ps.map (fun q => q.1)
      · rw [if_pos (hps ▸ m)] at est
        rw [dn_put hP hx m]
        refine ⟨_, _, _, rfl, upd_same, ?_, fun q hq => ?_, hsame _⟩
        · rw [est, ← hps, List.map_map]
          refine List.map_congr_left fun q _ => ?_
          show (if q.1 = x then (q.1, r) else q).1 = q.1
          split <;> rfl
        · obtain ⟨q0, hq0, rfl⟩ := List.mem_map.mp hq
          by_cases e : q0.1 = x
          · rw [if_pos e]
            show upd H6 d _ r = some (.tup ((rowsTo es q0.1 (i + 1)).map natV))
            rw [e]
            exact keep h6
          · rw [if_neg e, other _ e]
            exact keep (hA6 q0 hq0)
      · rw [if_neg (hps ▸ m)] at est
        rw [dn_new hP hx m]
        refine ⟨_, _, _, rfl, upd_same, by rw [est, ← hps, List.map_append]; rfl, fun q hq => ?_, hsame _⟩
        rcases List.mem_append.mp hq with hq | hq
        · rw [other _ (fun e => m (e ▸ List.mem_map.mpr ⟨q, hq, rfl⟩))]
          exact keep (hA6 q hq)
        · rw [List.mem_singleton.mp hq]
          exact keep h6
    · rintro σ H2 ⟨ps, v2, v3, rfl, h2d, hps, hA, S2⟩
      have hP : ∀ q ∈ ps, Ent q.1 := fun q hq => hE q.1 (entTo_mem _ (hps ▸ List.mem_map.mpr ⟨q, hq, rfl⟩)).1
      refine ⟨_, rfl, d, _, rfl, h2d, d, _, rfl, rfl, h2d, fun v hv => ?_⟩
      have T3 := same_upd (o := ViewO v d) hv
      refine ⟨v, d, _, rfl, upd_same, T3 _ _ h2d, fun H' t as S3 _ ht hPr => ?_⟩
      have S23 : Same H2 H' := fun b o e => S3 _ _ (T3 _ _ e)
      have hlen : as.length = ps.length := by rw [hPr.len]; unfold dnOf; rw [List.length_map]
      refine q H' t (List.zipWith (fun a q => (a, (q.1, rowsTo es q.1 es.length))) as ps) (S2.trans S23) ?_ (fun y hy => ?_) ?_
      · rw [ht, List.map_zipWith]
        congr 2
        exact (Vm.zip_fst V.ref as ps hlen).symm
      · obtain ⟨j, hj⟩ := List.mem_iff_getElem?.mp hy
        rw [List.getElem?_zipWith] at hj
        cases ea : as[j]? with
        | none => rw [ea] at hj; cases hj
        | some a =>
          cases ep : ps[j]? with
          | none => rw [ea, ep] at hj; cases hj
          | some qq =>
            rw [ea, ep] at hj
            cases hj
            have hm := List.mem_of_getElem? ep
            have hmem : qq.1 ∈ entTo es es.length := hps ▸ List.mem_map.mpr ⟨qq, hm, rfl⟩
            have h3 := hPr.item j a (vKey qq.1) (.ref qq.2) ea (by unfold dnOf; rw [List.getElem?_map, ep]; rfl)
            rw [vKey_ent (hP qq hm)] at h3
            exact ⟨rdgs_ok hE h30 hmem, qq.2, h3, S23 _ _ (hA qq hm)⟩
      · rw [List.map_zipWith]
        unfold rdgsOf
        rw [← hps, List.map_map]
        exact Vm.zip_snd (fun q : V × Addr => (q.1, rowsTo es q.1 es.length)) as ps hlen
theorem sameV_seq {H : Hp} {n : Nat} {p r : Addr} {xs ys : List V} (hp : H p = some (.tup xs)) (hr : H r = some (.tup ys)) (hl : xs.length = ys.length) (hz : ys.length ≤ 100000) (h : ∀ (i : Nat) (a b : V), xs[i]? = some a → ys[i]? = some b → SameV H n a b) : SameV H (n + 1) (.ref p) (.ref r) := .inr ⟨p, r, xs, ys, rfl, rfl, hp, hr, hl, hz, h⟩
theorem sameV_ent {H : Hp} {v : V} (h : Ent v) : SameV H 0 v v := by
  rcases h with rfl | ⟨z, _, rfl⟩
  · exact .inr (.inr ⟨rfl, rfl⟩)
  · exact .inl ⟨z, rfl, rfl⟩
theorem eqs_by {α β : Type} [DecidableEq β] {K : PySem.W.Frag} {H : Hp} {n : Nat} {p r : Addr} {xs ys : List α} (v : α → V) (f : α → β) (h : (SqL K H p (xs.map v) ∧ SqL K H r (ys.map v)) ∨ (SqT K H p (xs.map v) ∧ SqT K H r (ys.map v))) (he : ∀ x ∈ xs, ∀ y ∈ ys, EqQ K H n (v x) (v y) (decide (f x = f y))) : EqS K H n (.ref p) (.ref r) (decide (xs.map f = ys.map f)) := by
  refine ⟨p, r, _, _, fun i => decide ((xs.map f)[i]? = (ys.map f)[i]?), rfl, rfl, h, fun i x y hx hy => ?_, ?_⟩
  · rw [List.getElem?_map] at hx hy
    obtain ⟨a, ha, rfl⟩ := Option.map_eq_some_iff.mp hx
    obtain ⟨b, hb, rfl⟩ := Option.map_eq_some_iff.mp hy
    have h1 := he a (List.mem_of_getElem? ha) b (List.mem_of_getElem? hb)
    have e : decide ((xs.map f)[i]? = (ys.map f)[i]?) = decide (f a = f b) := decide_eq_decide.mpr (by
      rw [List.getElem?_map, List.getElem?_map, ha, hb]
      exact ⟨fun z => Option.some.inj z, fun z => congrArg some z⟩)
    show EqQ K H n (v a) (v b) (decide _)
    rw [e]
    exact h1
  · rw [List.length_map, List.length_map, Bool.eq_iff_iff, decide_eq_true_eq, Bool.and_eq_true, decide_eq_true_eq, List.all_eq_true]
    constructor
    · intro e
      refine ⟨?_, fun i _ => decide_eq_true (by rw [e])⟩
      have := congrArg List.length e
      rw [List.length_map, List.length_map] at this
      exact this
    · rintro ⟨hl, ha⟩
      refine List.ext_getElem? fun i => ?_
      by_cases hi : i < xs.length
      · exact of_decide_eq_true (ha i (List.mem_range.mpr hi))
      · rw [List.getElem?_eq_none (by rw [List.length_map]; omega), List.getElem?_eq_none (by rw [List.length_map]; omega)]
abbrev RdgZ := V × List Int
def RdgAtZ (K : PySem.W.Frag) (H : Hp) (t : Addr) (x : RdgZ) : Prop := Ent x.1 ∧ ∃ r, SqT K H t [x.1, .ref r] ∧ SqT K H r (x.2.map V.int)
theorem RdgAtZ.mono {K : PySem.W.Frag} {H H' : Hp} {t : Addr} {x : RdgZ} (S : Same H H') (h : RdgAtZ K H t x) : RdgAtZ K H' t x := by
  obtain ⟨ho, r, h1, h2⟩ := h
  exact ⟨ho, r, sameT S h1, sameT S h2⟩
def rdgZ (y : Rdg) : RdgZ := (y.1, y.2.map fun n => ((n : Nat) : Int))
theorem rdgAt_z {K : PySem.W.Frag} {H : Hp} {t : Addr} {y : Rdg} (h : RdgAt H t y) : RdgAtZ K H t (rdgZ y) := by
  obtain ⟨ho, r, h1, h2⟩ := h
  exact ⟨ho.1, r, SqT.of h1, by unfold rdgZ; rw [List.map_map]; exact SqT.of h2⟩
theorem rdgz_eq {K : PySem.W.Frag} {H : Hp} {a b : Addr} {y z : RdgZ} (h : RdgAtZ K H a y) (h' : RdgAtZ K H b z) : EqQ K H 2 (.ref a) (.ref b) (decide (y = z)) := by
  obtain ⟨ho, r, h1, h2⟩ := h
  obtain ⟨ho', r', h3, h4⟩ := h'
  refine .inr ⟨a, b, _, _, fun i => if i = 0 then decide (y.1 = z.1) else decide (y.2 = z.2), rfl, rfl, .inr ⟨h1, h3⟩, fun i u v hu hv => ?_, ?_⟩
  · match i, hu, hv with
    | 0, hu, hv =>
      cases hu; cases hv
      have := EqQ.flat (K := K) (H := H) (ent_flat ho) (ent_flat ho') 1
      rw [ent_eqV ho ho'] at this
      exact this
    | 1, hu, hv =>
      cases hu; cases hv
      have := eqs_by (K := K) (H := H) (n := 0) (xs := y.2) (ys := z.2) V.int (fun x => x) (.inr ⟨h2, h4⟩) fun u _ v _ => ⟨rfl, rfl, by show _ = (u == v); rw [Bool.eq_iff_iff, decide_eq_true_eq, beq_iff_eq]⟩
      rw [List.map_id', List.map_id'] at this
      exact .inr this
    | k + 2, hu, hv => simp at hu
  · show _ = (true && ((if (0 : Nat) = 0 then decide (y.1 = z.1) else _) && ((if (1 : Nat) = 0 then _ else decide (y.2 = z.2)) && true)))
    rw [if_pos rfl, if_neg (by decide), Bool.true_and, Bool.and_true, Bool.eq_iff_iff, decide_eq_true_eq, Bool.and_eq_true, decide_eq_true_eq, decide_eq_true_eq]
    exact Prod.ext_iff
theorem eqs_rdgz {K : PySem.W.Frag} {H : Hp} {t u : Addr} {xs ys : List (Addr × RdgZ)} (ht : SqT K H t (xs.map fun y => V.ref y.1)) (hu : SqT K H u (ys.map fun y => V.ref y.1)) (hX : ∀ y ∈ xs, RdgAtZ K H y.1 y.2) (hY : ∀ y ∈ ys, RdgAtZ K H y.1 y.2) : EqS K H 2 (.ref t) (.ref u) (decide ((xs.map fun y => y.2) = ys.map fun y => y.2)) :=
  eqs_by (fun y => V.ref y.1) (fun y => y.2) (.inr ⟨ht, hu⟩) fun x hx y hy => rdgz_eq (hX x hx) (hY y hy)
def putRow (m : Nat) (x : V) (o : Option (List V)) (r : Int) : Option (List V) := o.bind fun c => if 0 < r ∧ r < (m : Int) then some (c.set r.toNat x) else none
def putRdg (m : Nat) (o : Option (List V)) (y : RdgZ) : Option (List V) := y.2.foldl (putRow m y.1) o
def putAll (m : Nat) (e : V) (ys : List RdgZ) : Option (List V) := ys.foldl (putRdg m) (some (List.replicate m e))
def colBack (e : V) (m : Nat) (ys : List RdgZ) : Option (List V) := (putAll m e ys).bind fun c => if ys = [] ∨ ¬ (rdgsOf c).map rdgZ = ys then none else some c
theorem row_none {m : Nat} {x : V} : ∀ rs : List Int, rs.foldl (putRow m x) none = none
  | [] => rfl
  | _ :: rs => row_none rs
theorem rdg_none {m : Nat} : ∀ ys : List RdgZ, ys.foldl (putRdg m) none = none
  | [] => rfl
  | y :: ys => by
    rw [List.foldl_cons, show putRdg m none y = none from row_none _]
    exact rdg_none ys
theorem split_at {α : Type} {l : List α} {j : Nat} {a : α} (h : l[j]? = some a) : l = l.take j ++ a :: l.drop (j + 1) := by
  obtain ⟨h1, h2⟩ := List.getElem?_eq_some_iff.mp h
  rw [← h2, ← List.drop_eq_getElem_cons h1, List.take_append_drop]
theorem col_dead {e : V} {m j k : Nat} {ys : List RdgZ} {y : RdgZ} {r : Int} {c c' : List V} (hys : ys[j]? = some y) (hf : (ys.take j).foldl (putRdg m) (some (List.replicate m e)) = some c) (hrk : y.2[k]? = some r) (hf' : (y.2.take k).foldl (putRow m y.1) (some c) = some c') (hn : ¬ (0 < r ∧ r < ((m : Nat) : Int))) : colBack e m ys = none := by
  have e3 : putRdg m (some c) y = none := by
    unfold putRdg
    rw [split_at hrk, List.foldl_append, hf', List.foldl_cons]
    have : putRow m y.1 (some c') r = none := by
      show (if 0 < r ∧ r < (m : Int) then some (c'.set r.toNat y.1) else none) = none
      rw [if_neg hn]
    rw [this]
    exact row_none _
  have e4 : putAll m e ys = none := by
    unfold putAll
    rw [split_at hys, List.foldl_append, hf, List.foldl_cons, e3]
    exact rdg_none _
  unfold colBack
  rw [e4]
  rfl
def spCBX (K : PySem.W.Frag) (C : Addr) : Sp := fun vs H Q E => ∃ (e : V) (m : Nat) (t : Addr) (xs : List (Addr × RdgZ)), vs = [e, .int ((m : Nat) : Int), .ref t] ∧ Ent e ∧ 1 ≤ m ∧ m ≤ 30 ∧ SqT K H t (xs.map fun y => V.ref y.1) ∧ (∀ y ∈ xs, RdgAtZ K H y.1 y.2) ∧
  (∀ c, colBack e m (xs.map fun y => y.2) = some c → c.length = m → (∀ z ∈ c, Ent z) → ∀ (H' : Hp) (r : Addr), Same H H' → H' r = some (.tup c) → Q (.ref r) H') ∧ (colBack e m (xs.map fun y => y.2) = none → ∀ H', Same H H' → E (.ref C) none H')
theorem scCB : FnScope ["entry", "many", "readings", "column", "reading", "rows", "row"] ["entry", "many", "readings"] (defScope sCB) := ⟨rfl, rfl, rfl, by decide +kernel, rfl, by decide +kernel, by decide +kernel⟩
theorem ok_cbX {f gR C : Addr} {fd dR : FuncData} (F : Fun K "column_back" "column_back" sCB f fd) (DR : Dfn K mg "readings_of" sRdf gR dR ["column"]) (mC : mg "NoNotes" = some (.ref C)) (xC : VEx K C) (mlen : mg "len" = none) (mtup : mg "tuple" = none) (menum : mg "enumerate" = none) : FnOk P w K mg base (CXv P w) 2 f fd ["entry", "many", "readings"] (spCBX K C) := by
  have GR : FnOk P w K mg base CX0 1 gR dR ["column"] spReadingsL := ok_readingsL DR.fn mtup menum
  refine Fun.okX F scCB (fun vs H Q E h => ?_) (fun cdv A outer s H vs Q E hr h => ?_)
  · obtain ⟨e, m, t, xs, rfl, _⟩ := h
    rfl
  · obtain ⟨e, m, t, xs, rfl, he, hm1, hm30, ht, hX, q1, q2⟩ := h
    refine ⟨_, PSs.fly (pss_cons (ps_set (i := 3) scCB.nd rfl (Or.inl rfl) (pe_op op_mulL (pe_lst (pa_cons (pv 0) pa_nil)) (pv 1)))
      (pss_cons (ps_for passF rfl (pi_tup (pv 2)) (pg_tup (n := 2) rfl (pgs_cons (pg_name (i := 4) scCB.nd rfl (Or.inl rfl)) (pgs_cons (pg_name (i := 5) scCB.nd rfl (Or.inl rfl)) pgs_nil)))
      (pss_one (ps_for passF rfl (pi_tup (pv 5)) (pg_name (i := 6) scCB.nd rfl (Or.inl rfl))
      (pss_cons (ps_if (pt_not (pt_chain op_lt op_lt pe_int (pv 6) (pv 1))) (pss_one (ps_raise rfl (by rfl) mC xC landsF pe_str)) pss_nil)
      (pss_one (ps_asg (pv 4) (pg_sub (pv 3) (pv 6) set_list)))))))
      (pss_cons (ps_if (PW.pt (pw_or (pt_cmpR op_eq (pe_callB call_len_seq (by rfl) mlen PySem.boot_len (pa_cons (pv 2) pa_nil)) pe_int (nomark _)) (pw_or1 (pt_cmpR (op_neS hr.units) (pe_call GR hr (by rfl) DR.at_ DR.fn.kp DR.bn .nil pass0 (pa_cons (pv 3) pa_nil)) (pv 2) (nomark _))))) (pss_one (ps_raise rfl (by rfl) mC xC landsF pe_str)) pss_nil)
      (pss_one (ps_ret (pe_callTy call_tuple_of (by rfl) mtup boot_tuple (pa_cons (pv 3) pa_nil))))))), ?_⟩
    have z1 : (1 : Nat) ≤ sizeLine := few (by omega)
    refine ⟨_, rfl, z1, fun l0 hl0 => ?_⟩
    have T0 := same_upd (o := .lst [e]) hl0
    refine ⟨_, rfl, l0, _, m, rfl, rfl, upd_same, by omega, fun lc hlc => ?_⟩
    have T1 := same_upd (o := .lst (List.replicate m e)) hlc
    have S1 := T0.trans T1
    have h1c : upd (upd H l0 (.lst [e])) lc (.lst (List.replicate m e)) lc = some (.lst (List.replicate m e)) := upd_same
    have hcH := T0.free hlc
    generalize upd (upd H l0 (.lst [e])) lc (.lst (List.replicate m e)) = H1 at S1 h1c
    refine ⟨_, rfl, t, rfl, ⟨_, sameT S1 ht⟩, for_tup (K := K) (a := t) (xs := xs.map fun y => V.ref y.1) (fun j σ H2 => ∃ (c : List V) (v4 v5 v6 : Option V), σ = [some e, some (.int ((m : Nat) : Int)), some (.ref t), some (.ref lc), v4, v5, v6] ∧ H2 lc = some (.lst c) ∧ ((xs.map fun y => y.2).take j).foldl (putRdg m) (some (List.replicate m e)) = some c ∧ c.length = m ∧ (∀ z ∈ c, Ent z) ∧ Same H H2)
      ⟨_, none, none, none, rfl, h1c, rfl, List.length_replicate .., (fun z hz => by rw [List.eq_of_mem_replicate hz]; exact he), S1⟩ (fun j σ H2 _ ⟨_, _, _, _, _, _, _, _, _, S⟩ => sameT S ht) ?_ ?_⟩
    · rintro j y σ H2 hj ⟨c, v4, v5, v6, rfl, h2c, hf, hcl, hce, S2⟩
      rw [List.getElem?_map] at hj
      obtain ⟨p, hp, rfl⟩ := Option.map_eq_some_iff.mp hj
      obtain ⟨hx, r0, hp1, hp2⟩ := hX p (List.mem_of_getElem? hp)
      have hys : (xs.map fun y => y.2)[j]? = some p.2 := by rw [List.getElem?_map, hp]; rfl
      refine ⟨p.1, _, rfl, sameT S2 hp1, rfl, _, _, rfl, _, _, rfl, rfl, ?_⟩
      refine ⟨_, rfl, r0, rfl, ⟨_, sameT S2 hp2⟩, for_tup (K := K) (a := r0) (xs := p.2.2.map V.int) (fun k σ H3 => ∃ (c' : List V) (v6 : Option V), σ = [some e, some (.int ((m : Nat) : Int)), some (.ref t), some (.ref lc), some p.2.1, some (.ref r0), v6] ∧ H3 lc = some (.lst c') ∧ (p.2.2.take k).foldl (putRow m p.2.1) (some c) = some c' ∧ c'.length = m ∧ (∀ z ∈ c', Ent z) ∧ Same H H3)
        ⟨c, v6, rfl, h2c, rfl, hcl, hce, S2⟩ (fun k σ H3 _ ⟨_, _, _, _, _, _, _, S⟩ => sameT S hp2) ?_ ?_⟩
      · rintro k y σ H3 hk ⟨c', v6, rfl, h3c, hf', hcl', hce', S3⟩
        rw [List.getElem?_map] at hk
        obtain ⟨r, hrk, rfl⟩ := Option.map_eq_some_iff.mp hk
        have dead : ¬ (0 < r ∧ r < ((m : Nat) : Int)) → E (.ref C) none H3 := fun hn => q2 (col_dead hys hf hrk hf' hn) _ S3
        refine ⟨_, rfl, _, _, rfl, rfl, _, rfl, ?_⟩
        by_cases b1 : (0 : Int) < r
        · rw [decide_eq_true b1]
          refine iteT ⟨_, rfl, _, _, rfl, rfl, _, rfl, ?_⟩
          by_cases b2 : r < ((m : Nat) : Int)
          · rw [decide_eq_true b2]
            refine iteF ?_
            obtain ⟨n, rfl⟩ : ∃ n : Nat, r = ((n : Nat) : Int) := ⟨r.toNat, by omega⟩
            refine ⟨_, rfl, _, rfl, _, rfl, lc, _, _, n, rfl, rfl, h3c, (by rw [hcl']; exact ixN_nat (by omega)), ?_⟩
            refine ⟨c'.set n p.2.1, _, rfl, upd_same, ?_, by rw [List.length_set]; exact hcl', fun z hz => ?_, same_to S3 hcH⟩
            · rw [List.take_add_one, hrk, List.foldl_append, hf']
              show (if 0 < ((n : Nat) : Int) ∧ ((n : Nat) : Int) < ((m : Nat) : Int) then some (c'.set ((n : Nat) : Int).toNat p.2.1) else none) = _
              rw [if_pos ⟨b1, b2⟩]
              rfl
            · rcases List.mem_or_eq_of_mem_set hz with hz | hz
              · exact hce' z hz
              · rw [hz]; exact hx
          · rw [decide_eq_false b2]
            exact iteT ⟨z1, dead fun z => b2 z.2⟩
        · rw [decide_eq_false b1]
          exact iteF ⟨_, rfl, iteT ⟨z1, dead fun z => b1 z.1⟩⟩
      · rintro σ H3 ⟨c', v6, rfl, h3c, hf', hcl', hce', S3⟩
        rw [List.length_map, List.take_length] at hf'
        refine ⟨c', _, _, _, rfl, h3c, ?_, hcl', hce', S3⟩
        rw [List.take_add_one, hys, List.foldl_append, hf]
        exact hf'
    · rintro σ H2 ⟨c, v4, v5, v6, rfl, h2c, hf, hcl, hce, S2⟩
      have lx : (xs.map fun y => V.ref y.1).length = (xs.map fun y => y.2).length := by rw [List.length_map, List.length_map]
      rw [lx, List.take_length] at hf
      have hcb : colBack e m (xs.map fun y => y.2) = if (xs.map fun y => y.2) = [] ∨ ¬ (rdgsOf c).map rdgZ = (xs.map fun y => y.2) then none else some c := by
        unfold colBack putAll
        rw [hf]
        rfl
      refine ⟨_, rfl, t, _, rfl, .inr (sameT S2 ht), rfl, _, rfl, ?_⟩
      rw [lx]
      by_cases hn : (xs.map fun y => y.2) = []
      · rw [decide_eq_true (show V.int (((xs.map fun y => y.2).length : Nat) : Int) = V.int 0 by rw [hn]; rfl)]
        exact iteT (iteT ⟨z1, q2 (by rw [hcb, if_pos (.inl hn)]) _ S2⟩)
      · rw [decide_eq_false (show ¬ V.int (((xs.map fun y => y.2).length : Nat) : Int) = V.int 0 from fun z => hn (List.length_eq_zero_iff.mp (by have := V.int.inj z; omega)))]
        refine iteF ?_
        refine ⟨_, rfl, lc, c, rfl, h2c, hce, by omega, by omega, fun H3 r3 ys S3 h3 hY hye => ?_⟩
        have h3' : SqT K H3 r3 ((ys.map fun y => (y.1, rdgZ y.2)).map fun y => V.ref y.1) := by rw [List.map_map]; exact SqT.of h3
        have eb : ((ys.map fun y => (y.1, rdgZ y.2)).map fun y => y.2) = (rdgsOf c).map rdgZ := by rw [← hye, List.map_map, List.map_map]; rfl
        refine ⟨_, rfl, 2, _, by decide, eqs_rdgz h3' (sameT (S2.trans S3) ht) (fun y hy => by obtain ⟨w, hw, rfl⟩ := List.mem_map.mp hy; exact rdgAt_z (hY w hw)) (fun y hy => ((hX y hy).mono S2).mono S3), _, rfl, ?_⟩
        rw [eb]
        by_cases hq : (rdgsOf c).map rdgZ = (xs.map fun y => y.2)
        · rw [decide_eq_true hq]
          refine iteF ⟨_, rfl, lc, _, rfl, .inl ⟨SqL.of (S3 _ _ h2c), fun r4 hr4 => ?_⟩⟩
          exact q1 c (by rw [hcb, if_neg (fun z => z.elim hn fun z => z hq)]) hcl hce _ r4 ((S2.trans S3).trans (same_upd hr4)) upd_same
        · rw [decide_eq_false hq]
          exact iteT ⟨z1, q2 (by rw [hcb, if_pos (.inr hq)]) _ (S2.trans S3)⟩
abbrev NoteZ := Int × List RdgZ
abbrev NoteY := Int × List (Addr × RdgZ)
def NoteAtZ (K : PySem.W.Frag) (H : Hp) (t : Addr) (x : NoteY) : Prop := (∀ y ∈ x.2, RdgAtZ K H y.1 y.2) ∧ ∃ q, SqT K H t [.int x.1, .ref q] ∧ SqT K H q (x.2.map fun y => V.ref y.1)
theorem NoteAtZ.mono {K : PySem.W.Frag} {H H' : Hp} {t : Addr} {x : NoteY} (S : Same H H') (h : NoteAtZ K H t x) : NoteAtZ K H' t x := by
  obtain ⟨h1, q, h2, h3⟩ := h
  exact ⟨fun y hy => (h1 y hy).mono S, q, sameT S h2, sameT S h3⟩
def toldZ (y : NoteY) : NoteZ := (y.1, y.2.map fun z => z.2)
def obStep (es : List V) (m : Nat) (o : Option (Int × List (List V))) (y : NoteZ) : Option (Int × List (List V)) := o.bind fun s => if s.1 < y.1 ∧ y.1 < ((es.length : Nat) : Int) then (colBack (es.getD y.1.toNat .non) m y.2).map fun c => (y.1, s.2.set y.1.toNat c) else none
def obAll (es : List V) (m : Nat) (ys : List NoteZ) : Option (Int × List (List V)) := ys.foldl (obStep es m) (some (-1, es.map fun e => List.replicate m e))
theorem ob_none {es : List V} {m : Nat} : ∀ ys : List NoteZ, ys.foldl (obStep es m) none = none
  | [] => rfl
  | _ :: ys => ob_none ys
theorem ob_dead {es : List V} {m j : Nat} {ys : List NoteZ} {y : NoteZ} {s : Int × List (List V)} (hys : ys[j]? = some y) (hf : (ys.take j).foldl (obStep es m) (some (-1, es.map fun e => List.replicate m e)) = some s) (hn : obStep es m (some s) y = none) : obAll es m ys = none := by
  unfold obAll
  rw [split_at hys, List.foldl_append, hf, List.foldl_cons, hn]
  exact ob_none _
def ColsZ (H : Hp) (as : List Addr) (cs : List (List V)) : Prop := ∀ (i : Nat) (a : Addr) (c : List V), as[i]? = some a → cs[i]? = some c → H a = some (.tup c)
theorem ColsZ.mono {H H' : Hp} {as : List Addr} {cs : List (List V)} (S : Same H H') (h : ColsZ H as cs) : ColsZ H' as cs := fun i a c e1 e2 => S _ _ (h i a c e1 e2)
def spOBX (K : PySem.W.Frag) (C : Addr) : Sp := fun vs H Q E => ∃ (p t : Addr) (es : List V) (m : Nat) (ns : List (Addr × NoteY)), vs = [.ref p, .int ((m : Nat) : Int), .ref t] ∧ SqT K H p es ∧ (∀ e ∈ es, Ent e) ∧ es.length ≤ 10000 ∧ 1 ≤ m ∧ m ≤ 30 ∧ SqT K H t (ns.map fun y => V.ref y.1) ∧ (∀ y ∈ ns, NoteAtZ K H y.1 y.2) ∧
  (∀ s, obAll es m (ns.map fun y => toldZ y.2) = some s → ∀ (H' : Hp) (r : Addr) (as : List Addr), Same H H' → H' r = some (.tup (as.map V.ref)) → as.length = s.2.length → s.2.length = es.length → ColsZ H' as s.2 → Q (.ref r) H') ∧ (obAll es m (ns.map fun y => toldZ y.2) = none → ∀ H', Same H H' → E (.ref C) none H')
theorem scOB : FnScope ["entries", "many", "notes", "columns", "ahead", "number", "readings"] ["entries", "many", "notes"] (defScope sOB) := ⟨rfl, rfl, rfl, by decide +kernel, rfl, by decide +kernel, by decide +kernel⟩
theorem nd_em : (["entry", "many"] : List Str).Nodup := by decide +kernel
theorem ok_obX {f gR gC C : Addr} {fd dR dC : FuncData} (F : Fun K "collation_back" "collation_back" sOB f fd) (DR : Dfn K mg "readings_of" sRdf gR dR ["column"]) (DC : Dfn K mg "column_back" sCB gC dC ["entry", "many", "readings"]) (mC : mg "NoNotes" = some (.ref C)) (xC : VEx K C) (mlen : mg "len" = none) (mtup : mg "tuple" = none) (menum : mg "enumerate" = none) : FnOk P w K mg base (CXv P w) 3 f fd ["entries", "many", "notes"] (spOBX K C) := by
  have GC : FnOk P w K mg base (CXv P w) 2 gC dC ["entry", "many", "readings"] (spCBX K C) := ok_cbX DC.fn DR mC xC mlen mtup menum
  refine Fun.okX F scOB (fun vs H Q E h => ?_) (fun cdv A outer s H vs Q E hr h => ?_)
  · obtain ⟨p, t, es, m, ns, rfl, _⟩ := h
    rfl
  · obtain ⟨p, t, es, m, ns, rfl, hp, hE, hel, m1, m30, ht, hN, q1, q2⟩ := h
    refine ⟨_, PSs.fly (pss_cons (ps_setC (i := 3) (Nc := ["entry", "many"]) (mp := [none, some 1]) rfl scOB.nd rfl rfl (CompOk.of (by rfl)) (pi_tup (pv 0)) (fun cl C s H fp => ⟨pg_name (i := 0) nd_em rfl (Or.inl rfl), pts_nil, (pe_op op_mulT (pe_tup (pa_cons (pv 0) pa_nil)) (pv 1))⟩))
      (pss_cons (ps_set (i := 4) scOB.nd rfl (Or.inl rfl) (pe_un un_neg pe_int))
      (pss_cons (ps_for passF rfl (pi_tup (pv 2)) (pg_tup (n := 2) rfl (pgs_cons (pg_name (i := 5) scOB.nd rfl (Or.inl rfl)) (pgs_cons (pg_name (i := 6) scOB.nd rfl (Or.inl rfl)) pgs_nil)))
      (pss_cons (ps_if (pt_not (pt_chain op_lt op_lt (pv 4) (pv 5) (pe_callB call_len_seq (by rfl) mlen PySem.boot_len (pa_cons (pv 0) pa_nil)))) (pss_one (ps_raise rfl (by rfl) mC xC landsF pe_str)) pss_nil)
      (pss_cons (ps_asg (pe_call GC hr (by rfl) DC.at_ DC.fn.kp DC.bn .nil passesF (pa_cons (pe_ix ix_tup (pv 0) (pv 5) (fun _ _ => rfl)) (pa_cons (pv 1) (pa_cons (pv 6) pa_nil)))) (pg_sub (pv 3) (pv 5) set_list))
      (pss_one (ps_set (i := 4) scOB.nd rfl (Or.inl rfl) (pv 5))))))
      (pss_one (ps_ret (pe_callTy call_tuple_of (by rfl) mtup boot_tuple (pa_cons (pv 3) pa_nil))))))), ?_⟩
    have z1 : (1 : Nat) ≤ sizeLine := few (by omega)
    have hid : (es.map fun x => x) = es := List.map_id' es
    refine ⟨_, rfl, p, rfl, ⟨_, hp⟩, comp_grow (as := es) (v := fun x => x) (fun i acc H2 => ∃ as : List Addr, acc = as.map V.ref ∧ as.length = i ∧ Same H H2 ∧ ColsZ H2 as (es.map fun e => List.replicate m e))
      (fun i acc H2 _ ⟨_, _, _, S, _⟩ => src_tup (by rw [hid]; exact sameT S hp)) (few (by omega)) ⟨[], rfl, rfl, Same.refl _, (fun i a c e => by simp at e)⟩ (fun i acc H2 ⟨as, e, hl, _⟩ => by rw [e, List.length_map, hl]) ?_ ?_⟩
    · rintro i c acc H2 hc ⟨as, rfl, hal, S2, hA⟩ k hk
      refine ⟨_, rfl, z1, fun t3 ht3 => ?_⟩
      have T3 := same_upd (o := .tup [c]) ht3
      refine ⟨_, rfl, t3, _, m, rfl, rfl, upd_same, by omega, fun r4 H4 S4 h4 => ?_⟩
      have S24 := T3.trans S4
      refine hk _ _ ⟨as ++ [r4], by rw [List.map_append]; rfl, by rw [List.length_append, hal]; rfl, S2.trans S24, fun j a d e1 e2 => ?_⟩
      by_cases hj : j < as.length
      · rw [List.getElem?_append_left hj] at e1
        exact S24 _ _ (hA j a d e1 e2)
      · rw [List.getElem?_append_right (by omega)] at e1
        have hj0 : j = i := by
          have := (List.getElem?_eq_some_iff.mp e1).1
          rw [List.length_singleton] at this
          omega
        subst hj0
        rw [hal, Nat.sub_self] at e1
        cases e1
        rw [List.getElem?_map, hc] at e2
        cases e2
        exact h4
    rintro acc H2 ⟨as, rfl, hal, S2, hA⟩ lc hlc
    have T3 := same_upd (o := .lst (as.map V.ref)) hlc
    have h3c : upd H2 lc (.lst (as.map V.ref)) lc = some (.lst (as.map V.ref)) := upd_same
    have S3 := S2.trans T3
    have hcH := S2.free hlc
    have hA3 := hA.mono T3
    generalize upd H2 lc (.lst (as.map V.ref)) = H3 at T3 h3c S3 hA3
    refine ⟨_, rfl, ?_⟩
    refine ⟨_, rfl, t, rfl, ⟨_, sameT S3 ht⟩, for_tup (K := K) (a := t) (xs := ns.map fun y => V.ref y.1) (fun j σ H4 => ∃ (as : List Addr) (s : Int × List (List V)) (v5 v6 : Option V), σ = [some (.ref p), some (.int ((m : Nat) : Int)), some (.ref t), some (.ref lc), some (.int s.1), v5, v6] ∧ as.length = es.length ∧ s.2.length = es.length ∧ H4 lc = some (.lst (as.map V.ref)) ∧ ColsZ H4 as s.2 ∧ ((ns.map fun y => toldZ y.2).take j).foldl (obStep es m) (some (-1, es.map fun e => List.replicate m e)) = some s ∧ -1 ≤ s.1 ∧ Same H H4)
      ⟨as, (-1, es.map fun e => List.replicate m e), none, none, rfl, hal, List.length_map .., h3c, hA3, rfl, Int.le_refl _, S3⟩ (fun j σ H4 _ ⟨_, _, _, _, _, _, _, _, _, _, _, S⟩ => sameT S ht) ?_ ?_⟩
    · rintro j y σ H4 hj ⟨as, s, v5, v6, rfl, hal, hsl, h4c, hB, hf, hs1, S4⟩
      rw [List.getElem?_map] at hj
      obtain ⟨y, hy, rfl⟩ := Option.map_eq_some_iff.mp hj
      have hys : (ns.map fun y => toldZ y.2)[j]? = some (toldZ y.2) := by rw [List.getElem?_map, hy]; rfl
      obtain ⟨n3, qa, n4, n5⟩ := hN y (List.mem_of_getElem? hy)
      refine ⟨y.1, _, rfl, sameT S4 n4, rfl, _, _, rfl, _, _, rfl, rfl, ?_⟩
      refine ⟨_, rfl, _, rfl, _, _, rfl, rfl, _, rfl, ?_⟩
      have out : ¬ (s.1 < y.2.1 ∧ y.2.1 < ((es.length : Nat) : Int)) → E (.ref C) none H4 := fun hn => q2 (ob_dead hys hf (by
        show (if s.1 < y.2.1 ∧ y.2.1 < ((es.length : Nat) : Int) then _ else none) = none
        rw [if_neg hn])) _ S4
      by_cases b1 : s.1 < y.2.1
      · rw [decide_eq_true (show s.1 < y.2.1 from b1)]
        refine iteT ⟨_, rfl, p, _, rfl, .inr (sameT S4 hp), _, _, rfl, rfl, _, rfl, ?_⟩
        by_cases b2 : y.2.1 < ((es.length : Nat) : Int)
        · rw [decide_eq_true (show y.2.1 < ((es.length : Nat) : Int) from b2)]
          refine iteF ?_
          obtain ⟨n, en⟩ : ∃ n : Nat, y.2.1 = ((n : Nat) : Int) := ⟨y.2.1.toNat, by omega⟩
          have hnl : n < es.length := by omega
          have een := List.getElem?_eq_getElem hnl
          have egd : es.getD n .non = es[n] := by rw [List.getD_eq_getElem?_getD, een]; rfl
          have aent : atI es y.2.1 = some (es.getD n .non) := by rw [en]; exact atI_nat (by rw [egd]; exact een)
          have hEn : Ent (es.getD n .non) := by rw [egd]; exact hE _ (List.getElem_mem hnl)
          have est : obStep es m (some s) (toldZ y.2) = (colBack (es.getD n .non) m (y.2.2.map fun z => z.2)).map fun c => (y.2.1, s.2.set n c) := by
            show (if s.1 < y.2.1 ∧ y.2.1 < ((es.length : Nat) : Int) then (colBack (es.getD y.2.1.toNat .non) m (y.2.2.map fun z => z.2)).map fun c => (y.2.1, s.2.set y.2.1.toNat c) else none) = _
            rw [if_pos ⟨b1, b2⟩, en]
            rfl
          refine ⟨_, rfl, _, rfl, p, _, _, _, rfl, rfl, sameT S4 hp, aent, _, rfl, _, rfl, es.getD n .non, m, qa, y.2.2, rfl, hEn, m1, m30, sameT S4 n5, (fun z hz => (n3 z hz).mono S4), fun c hc hcl hce H5 r5 S5 h5 => ?_, fun hc H5 S5 => q2 (ob_dead hys hf (by rw [est, hc]; rfl)) _ (S4.trans S5)⟩
          have h5c := S5 _ _ h4c
          have hB5 := hB.mono S5
          refine ⟨_, rfl, _, rfl, lc, _, _, n, rfl, rfl, h5c, (by rw [List.length_map, hal, en]; exact ixN_nat hnl), ?_⟩
          have keep : ∀ {a : Addr} {ys zs : List V}, H5 a = some (.tup ys) → upd H5 lc (.lst zs) a = some (.tup ys) := fun {a ys zs} h => by
            rw [upd_ne (ne_of h h5c (by intro z; cases z))]; exact h
          refine ⟨_, rfl, as.set n r5, (y.2.1, s.2.set n c), _, _, rfl, by rw [List.length_set]; exact hal, by rw [List.length_set]; exact hsl, by rw [upd_same, List.map_set], fun i a d e1 e2 => ?_, ?_, (by show -1 ≤ y.2.1; omega), same_to (S4.trans S5) hcH⟩
          · rw [List.getElem?_set] at e1 e2
            by_cases hi : n = i
            · subst hi
              rw [if_pos rfl, if_pos (by rw [hal]; exact hnl)] at e1
              rw [if_pos rfl, if_pos (by rw [hsl]; exact hnl)] at e2
              cases e1
              cases e2
              exact keep h5
            · rw [if_neg hi] at e1 e2
              exact keep (hB5 i a d e1 e2)
          · rw [List.take_add_one, hys, List.foldl_append, hf]
            show obStep es m (some s) (toldZ y.2) = _
            rw [est, hc]
            rfl
        · rw [decide_eq_false (show ¬ y.2.1 < ((es.length : Nat) : Int) from b2)]
          exact iteT ⟨z1, out fun z => b2 z.2⟩
      · rw [decide_eq_false (show ¬ s.1 < y.2.1 from b1)]
        exact iteF ⟨_, rfl, iteT ⟨z1, out fun z => b1 z.1⟩⟩
    · rintro σ H4 ⟨as, s, v5, v6, rfl, hal, hsl, h4c, hB, hf, hs1, S4⟩
      have lx : (ns.map fun y => V.ref y.1).length = (ns.map fun y => toldZ y.2).length := by rw [List.length_map, List.length_map]
      rw [lx, List.take_length] at hf
      refine ⟨_, rfl, lc, _, rfl, .inl ⟨SqL.of h4c, fun r5 hr5 => ?_⟩⟩
      have T5 := same_upd (o := .tup (as.map V.ref)) hr5
      exact q1 s hf _ r5 as (S4.trans T5) upd_same (hal.trans hsl.symm) hsl (hB.mono T5)
theorem entStep_nodup {e0 x : V} {us : List V} (h : us.Nodup) : (entStep e0 us x).Nodup := by
  unfold entStep
  split
  · exact h
  · split
    · exact h
    · rename_i h2
      refine List.pairwise_append.mpr ⟨h, List.pairwise_singleton _ _, fun a ha b hb e => h2 ?_⟩
      rw [← List.mem_singleton.mp hb, ← e]
      exact ha
theorem entTo_more {es : List V} {i : Nat} (h : es[i]? = none) : entTo es (i + 1) = entTo es i := by unfold entTo; rw [List.take_add_one, h]; simp
theorem entTo_nodup (es : List V) : ∀ i : Nat, (entTo es i).Nodup
  | 0 => List.Pairwise.nil
  | i + 1 => by
    cases e : es[i]? with
    | none => rw [entTo_more e]; exact entTo_nodup es i
    | some x => rw [entTo_step e]; exact entStep_nodup (entTo_nodup es i)
theorem rowsTo_sorted (es : List V) (x : V) (n : Nat) : (rowsTo es x n).Pairwise (· < ·) := List.Pairwise.filter _ List.pairwise_lt_range
theorem getD_of {es : List V} {r : Nat} {x : V} (h : es[r]? = some x) : es.getD r .non = x := by rw [List.getD_eq_getElem?_getD, h]; rfl
theorem entTo_row {es : List V} {y : V} : ∀ i : Nat, y ∈ entTo es i → ∃ r, r < i ∧ r < es.length ∧ es.getD r .non = y
  | 0, h => nomatch h
  | i + 1, h => by
    cases e : es[i]? with
    | none =>
      rw [entTo_more e] at h
      obtain ⟨r, h1, h2⟩ := entTo_row i h
      exact ⟨r, by omega, h2⟩
    | some x =>
      rw [entTo_step e] at h
      rcases entStep_mem h with h | ⟨rfl, _⟩
      · obtain ⟨r, h1, h2⟩ := entTo_row i h
        exact ⟨r, by omega, h2⟩
      · exact ⟨i, by omega, (List.getElem?_eq_some_iff.mp e).1, getD_of e⟩
theorem entTo_ord {es : List V} : ∀ i : Nat, i ≤ es.length → (entTo es i).Pairwise fun x y => ∀ r, r < es.length → es.getD r .non = y → ∃ r', r' < r ∧ es.getD r' .non = x
  | 0, _ => List.Pairwise.nil
  | i + 1, hi => by
    have e := List.getElem?_eq_getElem (l := es) (i := i) (by omega)
    rw [entTo_step e]
    have ih := entTo_ord (es := es) i (by omega)
    have hm := fun (y : V) (hy : y ∈ entTo es i) => entTo_row i hy
    have hn : es[i] ∉ entTo es i → es[i] ≠ es.getD 0 .non → rowsTo es es[i] i = [] := fun h1 h2 => rows_none (es := es) i (by omega) h1 h2
    generalize es[i] = x at e hn
    unfold entStep
    split
    · exact ih
    · rename_i h0
      split
      · exact ih
      · rename_i h1
        refine List.pairwise_append.mpr ⟨ih, List.pairwise_singleton _ _, fun a ha b hb r hr er => ?_⟩
        rw [List.mem_singleton.mp hb] at er
        have h3 := hn h1 h0
        have h4 : ¬ r < i := fun z => by
          have : r ∈ rowsTo es x i := rowsTo_mem.mpr ⟨z, er⟩
          rw [h3] at this
          cases this
        obtain ⟨r', h5, _, h6⟩ := hm a ha
        exact ⟨r', by omega, h6⟩
structure VRd (e : V) (m : Nat) (ys : List RdgZ) : Prop where
  nd : (ys.map fun y => y.1).Nodup
  base : ∀ y ∈ ys, y.1 ≠ e
  rows : ∀ y ∈ ys, y.2 ≠ [] ∧ y.2.Pairwise (· < ·) ∧ ∀ r ∈ y.2, 0 < r ∧ r < ((m : Nat) : Int)
  ord : ys.Pairwise fun a b => ∀ r ∈ b.2, ∃ r' ∈ a.2, r' < r
  dis : ∀ y ∈ ys, ∀ z ∈ ys, ∀ r, r ∈ y.2 → r ∈ z.2 → y.1 = z.1
theorem rdgs_valid (c : List V) : VRd (c.getD 0 .non) c.length ((rdgsOf c).map rdgZ) := by
  have hmem : ∀ y ∈ (rdgsOf c).map rdgZ, ∃ x ∈ entTo c c.length, y = (x, (rowsTo c x c.length).map fun n => ((n : Nat) : Int)) := fun y hy => by
    obtain ⟨z, hz, rfl⟩ := List.mem_map.mp hy
    unfold rdgsOf at hz
    obtain ⟨x, hx, rfl⟩ := List.mem_map.mp hz
    exact ⟨x, hx, rfl⟩
  have hint : ∀ {x : V} {r : Int}, r ∈ (rowsTo c x c.length).map (fun n => ((n : Nat) : Int)) → ∃ n : Nat, r = ((n : Nat) : Int) ∧ n < c.length ∧ c.getD n .non = x := fun {x r} h => by
    obtain ⟨n, hn, rfl⟩ := List.mem_map.mp h
    exact ⟨n, rfl, rowsTo_mem.mp hn⟩
  refine ⟨?_, fun y hy => ?_, fun y hy => ?_, ?_, fun y hy z hz r h1 h2 => ?_⟩
  · have : ((rdgsOf c).map rdgZ).map (fun y => y.1) = entTo c c.length := by
      unfold rdgsOf
      rw [List.map_map, List.map_map]
      exact List.map_id' _
    rw [this]
    exact entTo_nodup c _
  · obtain ⟨x, hx, rfl⟩ := hmem y hy
    exact (entTo_mem _ hx).2
  · obtain ⟨x, hx, rfl⟩ := hmem y hy
    refine ⟨fun z => ?_, ?_, fun r hr => ?_⟩
    · obtain ⟨r, h1, h2, h3⟩ := entTo_row _ hx
      have : r ∈ rowsTo c x c.length := rowsTo_mem.mpr ⟨h2, h3⟩
      rw [List.map_eq_nil_iff.mp z] at this
      cases this
    · refine List.pairwise_map.mpr ((rowsTo_sorted c x c.length).imp fun h => ?_)
      exact Int.ofNat_lt.mpr h
    · obtain ⟨n, rfl, h1, h2⟩ := hint hr
      refine ⟨?_, by omega⟩
      rcases Nat.eq_zero_or_pos n with h0 | h0
      · rw [h0] at h2
        exact absurd h2.symm (entTo_mem _ hx).2
      · omega
  · unfold rdgsOf
    rw [List.map_map]
    refine List.pairwise_map.mpr ((entTo_ord c.length (Nat.le_refl _)).imp fun {a b} h r hr => ?_)
    obtain ⟨n, rfl, h1, h2⟩ := hint (x := b) hr
    obtain ⟨r', h3, h4⟩ := h n h1 h2
    exact ⟨((r' : Nat) : Int), List.mem_map.mpr ⟨r', rowsTo_mem.mpr ⟨by omega, h4⟩, rfl⟩, by omega⟩
  · obtain ⟨x, hx, rfl⟩ := hmem y hy
    obtain ⟨u, hu, rfl⟩ := hmem z hz
    obtain ⟨n, rfl, _, h3⟩ := hint h1
    obtain ⟨n', e, _, h4⟩ := hint h2
    have : n = n' := by omega
    rw [← this] at h4
    exact h3.symm.trans h4
theorem putRow_keep {m : Nat} {x e : V} : ∀ (rs : List Int) (c c' : List V), rs.foldl (putRow m x) (some c) = some c' → c.length = m → c.getD 0 .non = e → c'.length = m ∧ c'.getD 0 .non = e
  | [], c, c', h, h1, h2 => by cases h; exact ⟨h1, h2⟩
  | r :: rs, c, c', h, h1, h2 => by
    rw [List.foldl_cons] at h
    by_cases b : 0 < r ∧ r < ((m : Nat) : Int)
    · have e1 : putRow m x (some c) r = some (c.set r.toNat x) := by
        show (if 0 < r ∧ r < (m : Int) then some (c.set r.toNat x) else none) = _
        rw [if_pos b]
      rw [e1] at h
      refine putRow_keep rs _ c' h (by rw [List.length_set]; exact h1) ?_
      rw [List.getD_eq_getElem?_getD, List.getElem?_set_ne (by omega), ← List.getD_eq_getElem?_getD]
      exact h2
    · have e1 : putRow m x (some c) r = none := by
        show (if 0 < r ∧ r < (m : Int) then some (c.set r.toNat x) else none) = _
        rw [if_neg b]
      rw [e1, row_none] at h
      cases h
theorem putAll_keep {m : Nat} {e : V} : ∀ (ys : List RdgZ) (c c' : List V), ys.foldl (putRdg m) (some c) = some c' → c.length = m → c.getD 0 .non = e → c'.length = m ∧ c'.getD 0 .non = e
  | [], c, c', h, h1, h2 => by cases h; exact ⟨h1, h2⟩
  | y :: ys, c, c', h, h1, h2 => by
    rw [List.foldl_cons] at h
    cases e1 : putRdg m (some c) y with
    | none => rw [e1, rdg_none] at h; cases h
    | some d =>
      rw [e1] at h
      obtain ⟨h3, h4⟩ := putRow_keep y.2 c d e1 h1 h2
      exact putAll_keep ys d c' h h3 h4
theorem colBack_valid {e : V} {m : Nat} {ys : List RdgZ} {c : List V} (hm : 1 ≤ m) (h : colBack e m ys = some c) : VRd e m ys ∧ ys ≠ [] := by
  unfold colBack at h
  cases hp : putAll m e ys with
  | none => rw [hp] at h; cases h
  | some d =>
    rw [hp, Option.bind_some] at h
    split at h
    · cases h
    · rename_i hn
      have h1 : ¬ ys = [] := fun z => hn (.inl z)
      have h2 : (rdgsOf d).map rdgZ = ys := Classical.byContradiction fun z => hn (.inr z)
      obtain ⟨h3, h4⟩ := putAll_keep ys _ d hp (List.length_replicate ..) (e := e) (by rw [List.getD_eq_getElem?_getD, List.getElem?_replicate, if_pos (by omega)]; rfl)
      have := rdgs_valid d
      rw [h2, h3, h4] at this
      exact ⟨this, h1⟩
theorem ob_ok {es : List V} {m : Nat} : ∀ (ys : List NoteZ) (s0 s : Int × List (List V)), ys.foldl (obStep es m) (some s0) = some s → (∀ y ∈ ys, s0.1 < y.1 ∧ y.1 < ((es.length : Nat) : Int) ∧ ∃ c, colBack (es.getD y.1.toNat .non) m y.2 = some c) ∧ ys.Pairwise fun a b => a.1 < b.1
  | [], s0, s, h => ⟨(fun _ z => nomatch z), List.Pairwise.nil⟩
  | y :: ys, s0, s, h => by
    rw [List.foldl_cons] at h
    by_cases b : s0.1 < y.1 ∧ y.1 < ((es.length : Nat) : Int)
    · have e1 : obStep es m (some s0) y = (colBack (es.getD y.1.toNat .non) m y.2).map fun c => (y.1, s0.2.set y.1.toNat c) := by
        show (if s0.1 < y.1 ∧ y.1 < ((es.length : Nat) : Int) then _ else none) = _
        rw [if_pos b]
      rw [e1] at h
      cases hc : colBack (es.getD y.1.toNat .non) m y.2 with
      | none =>
        rw [hc] at h
        have : (none : Option (Int × List (List V))) = some s := (ob_none (es := es) (m := m) ys).symm.trans h
        cases this
      | some c =>
        rw [hc] at h
        obtain ⟨h1, h2⟩ := ob_ok ys (y.1, s0.2.set y.1.toNat c) s h
        refine ⟨fun z hz => ?_, List.pairwise_cons.mpr ⟨fun z hz => (h1 z hz).1, h2⟩⟩
        rcases List.mem_cons.mp hz with rfl | hz
        · exact ⟨b.1, b.2, c, hc⟩
        · have := h1 z hz
          exact ⟨Int.lt_trans b.1 this.1, this.2⟩
    · have e1 : obStep es m (some s0) y = none := by
        show (if s0.1 < y.1 ∧ y.1 < ((es.length : Nat) : Int) then _ else none) = _
        rw [if_neg b]
      rw [e1, ob_none] at h
      cases h
theorem putRows_col {es : List V} {x : V} : ∀ (rs : List Nat) (S : Nat → Bool), (∀ r ∈ rs, 0 < r ∧ r < es.length ∧ es.getD r .non = x) → ∃ S', (rs.map fun n => ((n : Nat) : Int)).foldl (putRow es.length x) (some (colF es (es.getD 0 .non) S es.length)) = some (colF es (es.getD 0 .non) S' es.length) ∧ ∀ r, S' r = true ↔ S r = true ∨ r ∈ rs
  | [], S, _ => ⟨S, rfl, fun r => ⟨fun z => .inl z, fun z => z.elim id fun z => nomatch z⟩⟩
  | r :: rs, S, h => by
    obtain ⟨h1, h2, h3⟩ := h r List.mem_cons_self
    have e1 : putRow es.length x (some (colF es (es.getD 0 .non) S es.length)) ((r : Nat) : Int) = some (colF es (es.getD 0 .non) (fun k => S k || k == r) es.length) := by
      show (if 0 < ((r : Nat) : Int) ∧ ((r : Nat) : Int) < ((es.length : Nat) : Int) then some ((colF es (es.getD 0 .non) S es.length).set ((r : Nat) : Int).toNat x) else none) = _
      rw [if_pos (by omega), Int.toNat_natCast, colF_set h2 h3]
    obtain ⟨S', h4, h5⟩ := putRows_col rs (fun k => S k || k == r) fun k hk => h k (List.mem_cons_of_mem _ hk)
    refine ⟨S', ?_, fun k => ?_⟩
    · rw [List.map_cons, List.foldl_cons, e1]
      exact h4
    · rw [h5, Bool.or_eq_true, beq_iff_eq, List.mem_cons, or_assoc]
theorem putAll_col {es : List V} : ∀ (us : List V) (S : Nat → Bool), (∀ u ∈ us, u ≠ es.getD 0 .non) → ∃ S', (us.map fun x => rdgZ (x, rowsTo es x es.length)).foldl (putRdg es.length) (some (colF es (es.getD 0 .non) S es.length)) = some (colF es (es.getD 0 .non) S' es.length) ∧ ∀ r, r < es.length → (S' r = true ↔ S r = true ∨ es.getD r .non ∈ us)
  | [], S, _ => ⟨S, rfl, fun r _ => ⟨fun z => .inl z, fun z => z.elim id fun z => nomatch z⟩⟩
  | u :: us, S, h => by
    have h0 := h u List.mem_cons_self
    obtain ⟨S1, h1, h2⟩ := putRows_col (es := es) (x := u) (rowsTo es u es.length) S fun r hr => by
      obtain ⟨a, b⟩ := rowsTo_mem.mp hr
      refine ⟨?_, a, b⟩
      rcases Nat.eq_zero_or_pos r with z | z
      · rw [z] at b
        exact absurd b.symm h0
      · exact z
    obtain ⟨S2, h3, h4⟩ := putAll_col us S1 fun v hv => h v (List.mem_cons_of_mem _ hv)
    refine ⟨S2, ?_, fun r hr => ?_⟩
    · rw [List.map_cons, List.foldl_cons, show putRdg es.length (some (colF es (es.getD 0 .non) S es.length)) (rdgZ (u, rowsTo es u es.length)) = _ from h1]
      exact h3
    · rw [h4 r hr, h2, rowsTo_mem, List.mem_cons, or_assoc]
      exact ⟨fun z => z.elim .inl fun z => .inr (z.elim (fun z => .inl z.2) .inr), fun z => z.elim .inl fun z => .inr (z.elim (fun z => .inl ⟨hr, z⟩) .inr)⟩
theorem colBack_own {c : List V} (h : rdgsOf c ≠ []) : colBack (c.getD 0 .non) c.length ((rdgsOf c).map rdgZ) = some c := by
  obtain ⟨S, h1, h2⟩ := putAll_col (es := c) (entTo c c.length) (fun _ => false) fun u hu => (entTo_mem _ hu).2
  rw [colF_none] at h1
  have h3 : colF c (c.getD 0 .non) S c.length = c := colF_done fun r hr => by
    rw [h2 r hr]
    exact ⟨fun z => z.elim (fun z => absurd z Bool.false_ne_true) id, .inr⟩
  rw [h3] at h1
  unfold colBack
  have h4 : putAll c.length (c.getD 0 .non) ((rdgsOf c).map rdgZ) = some c := by
    unfold putAll rdgsOf
    rw [List.map_map]
    exact h1
  rw [h4, Option.bind_some, if_neg]
  rintro (z | z)
  · exact h (List.map_eq_nil_iff.mp z)
  · exact z rfl
theorem lt_irr_list {l : List Int} (h : l.Pairwise (· < ·)) (h2 : l.reverse.Pairwise (· < ·)) : l.reverse = l := by
  match l, h, h2 with
  | [], _, _ => rfl
  | [a], _, _ => rfl
  | a :: b :: r, h, h2 =>
    have h3 := List.pairwise_reverse.mp h2
    have h4 : a < b := (List.pairwise_cons.mp h).1 b List.mem_cons_self
    have h5 : b < a := (List.pairwise_cons.mp h3).1 b List.mem_cons_self
    omega
section
variable {es : List V} {m : Nat}
def Okn (es : List V) (m : Nat) (y : NoteZ) : Prop := 0 ≤ y.1 ∧ y.1 < ((es.length : Nat) : Int) ∧ VRd (es.getD y.1.toNat .non) m y.2 ∧ y.2 ≠ []
theorem taken (hm : 1 ≤ m) {ys : List NoteZ} (h : obAll es m ys ≠ none) : (∀ y ∈ ys, Okn es m y) ∧ ys.Pairwise fun a b => a.1 < b.1 := by
  cases hs : obAll es m ys with
  | none => exact absurd hs h
  | some s =>
    obtain ⟨h1, h2⟩ := ob_ok ys _ s hs
    refine ⟨fun y hy => ?_, h2⟩
    obtain ⟨h3, h4, c, hc⟩ := h1 y hy
    have h3 : (-1 : Int) < y.1 := h3
    obtain ⟨h5, h6⟩ := colBack_valid hm hc
    exact ⟨by omega, h4, h5, h6⟩
variable {N : List NoteZ}
theorem way_end (hm : 1 ≤ m) {y : NoteZ} (hy : ¬ (0 ≤ y.1 ∧ y.1 < ((es.length : Nat) : Int))) : obAll es m (N ++ [y]) = none := by
  cases h : obAll es m (N ++ [y]) with
  | none => rfl
  | some s =>
    have := (taken hm (by rw [h]; exact fun z => nomatch z)).1 y (List.mem_append_right _ List.mem_cons_self)
    exact absurd ⟨this.1, this.2.1⟩ hy
theorem way_twice (hm : 1 ≤ m) {k : Nat} (hk : k < N.length) : obAll es m (N.take k ++ (N.drop k).take 1 ++ N.drop k) = none := by
  cases h : obAll es m (N.take k ++ (N.drop k).take 1 ++ N.drop k) with
  | none => rfl
  | some s =>
    have h1 := (taken hm (show obAll es m (N.take k ++ (N.drop k).take 1 ++ N.drop k) ≠ none by rw [h]; exact fun z => nomatch z)).2
    have h2 := (List.pairwise_append.mp h1).2.2
    have ed := List.drop_eq_getElem_cons hk
    have h3 := h2 N[k] (List.mem_append_right _ (by rw [ed]; exact List.mem_cons_self)) N[k] (by rw [ed]; exact List.mem_cons_self)
    exact absurd h3 (Int.lt_irrefl _)
theorem way_rev (hm : 1 ≤ m) (hN : obAll es m N ≠ none) (h : obAll es m N.reverse ≠ none) : N.reverse = N := by
  have h1 := (taken hm hN).2
  have h2 := (taken hm h).2
  match N, h1, h2 with
  | [], _, _ => rfl
  | [a], _, _ => rfl
  | a :: b :: r, h1, h2 =>
    have h3 := List.pairwise_reverse.mp h2
    have h4 : a.1 < b.1 := (List.pairwise_cons.mp h1).1 b List.mem_cons_self
    have h5 : b.1 < a.1 := (List.pairwise_cons.mp h3).1 b List.mem_cons_self
    omega
theorem way_in (hm : 1 ≤ m) {k : Nat} {y : NoteZ} (hN : obAll es m N ≠ none) (hk : N[k]? = some y) {z : List RdgZ} (h : obAll es m (N.take k ++ [(y.1, z)] ++ N.drop (k + 1)) ≠ none) (hz : VRd (es.getD y.1.toNat .non) m y.2 → y.2 ≠ [] → VRd (es.getD y.1.toNat .non) m z → z ≠ [] → z = y.2) : N.take k ++ [(y.1, z)] ++ N.drop (k + 1) = N := by
  obtain ⟨_, _, h1, h2⟩ := (taken hm hN).1 y (List.mem_of_getElem? hk)
  obtain ⟨_, _, h3, h4⟩ := (taken hm h).1 (y.1, z) (List.mem_append_left _ (List.mem_append_right _ List.mem_cons_self))
  rw [hz h1 h2 h3 h4, List.append_assoc]
  exact (split_at hk).symm
end
section
variable {e : V} {m : Nat} {Y : List RdgZ}
theorem rd_base {k : Nat} {rs : List Int} (h : VRd e m (Y.take k ++ [(e, rs)] ++ Y.drop (k + 1))) : False := h.base (e, rs) (List.mem_append_left _ (List.mem_append_right _ List.mem_cons_self)) rfl
theorem rd_again {y : RdgZ} {rs : List Int} (hy : y ∈ Y) (h : VRd e m (Y ++ [(y.1, rs)])) : False := by
  have h1 := h.nd
  rw [List.map_append] at h1
  exact (List.pairwise_append.mp h1).2.2 y.1 (List.mem_map.mpr ⟨y, hy, rfl⟩) y.1 List.mem_cons_self rfl
theorem rd_rev (h : VRd e m Y) (h2 : VRd e m Y.reverse) : Y.reverse = Y := by
  have h1 := h.ord
  have h3 := List.pairwise_reverse.mp h2.ord
  match Y, h, h1, h3 with
  | [], _, _, _ => rfl
  | [a], _, _, _ => rfl
  | a :: b :: r, h, h1, h3 =>
    have h4 := (List.pairwise_cons.mp h1).1 b List.mem_cons_self
    have h5 := (List.pairwise_cons.mp h3).1 b List.mem_cons_self
    obtain ⟨n1, n2, _⟩ := h.rows b (List.mem_cons_of_mem _ List.mem_cons_self)
    obtain ⟨c, t, eb⟩ := List.exists_cons_of_ne_nil n1
    rw [eb] at h4 h5 n2
    obtain ⟨r', h6, h7⟩ := h4 c List.mem_cons_self
    obtain ⟨r'', h8, h9⟩ := h5 r' h6
    rcases List.mem_cons.mp h8 with h8 | h8
    · omega
    · have := (List.pairwise_cons.mp n2).1 r'' h8
      omega
theorem rd_in {k : Nat} {y : RdgZ} (hY : VRd e m Y) (hk : Y[k]? = some y) {z : List Int} (h : VRd e m (Y.take k ++ [(y.1, z)] ++ Y.drop (k + 1))) (hz : y.2.Pairwise (· < ·) → y.2 ≠ [] → (z ≠ [] ∧ z.Pairwise (· < ·) ∧ ∀ r ∈ z, 0 < r ∧ r < ((m : Nat) : Int)) → z = y.2) : Y.take k ++ [(y.1, z)] ++ Y.drop (k + 1) = Y := by
  have h1 := hY.rows y (List.mem_of_getElem? hk)
  have h2 := h.rows (y.1, z) (List.mem_append_left _ (List.mem_append_right _ List.mem_cons_self))
  rw [hz h1.2.1 h1.1 h2, List.append_assoc]
  exact (split_at hk).symm
theorem rw_twice {l : List Int} (h1 : l ≠ []) (h : (l.take 1 ++ l).Pairwise (· < ·)) : False := by
  obtain ⟨c, t, rfl⟩ := List.exists_cons_of_ne_nil h1
  have : c < c := (List.pairwise_append.mp h).2.2 c List.mem_cons_self c List.mem_cons_self
  omega
theorem rd_both {f g : RdgZ} {zs : List Int} (hY : VRd e m Y) (hf : Y[0]? = some f) (hg : Y.getLast? = some g) (hp : zs.Perm (f.2 ++ g.2)) (h : VRd e m (Y.dropLast ++ [(g.1, zs)])) : False := by
  have hl := (h.rows (g.1, zs) (List.mem_append_right _ List.mem_cons_self)).2.1
  have hfm := List.mem_of_getElem? hf
  obtain ⟨c, t, ef⟩ := List.exists_cons_of_ne_nil (hY.rows f hfm).1
  have hc : c ∈ f.2 := by rw [ef]; exact List.mem_cons_self
  match Y, hf, hg with
  | [a], hf, hg =>
    cases hf; cases hg
    have hn : zs.Nodup := hl.imp fun h e => by omega
    have h2 : (f.2 ++ f.2).Nodup := hp.nodup_iff.mp hn
    exact (List.pairwise_append.mp h2).2.2 c hc c hc rfl
  | a :: b :: r, hf, hg =>
    cases hf
    have hz : c ∈ zs := hp.mem_iff.mpr (List.mem_append_left _ hc)
    have hm1 : f ∈ (f :: b :: r).dropLast := by rw [List.dropLast_cons_of_ne_nil (List.cons_ne_nil _ _)]; exact List.mem_cons_self
    have h3 := h.dis f (List.mem_append_left _ hm1) (g.1, zs) (List.mem_append_right _ List.mem_cons_self) c hc hz
    have h4 := h.nd
    rw [List.map_append] at h4
    exact (List.pairwise_append.mp h4).2.2 f.1 (List.mem_map.mpr ⟨f, hm1, rfl⟩) g.1 List.mem_cons_self h3
end
def noteZ (p : Nat × List Rdg) : NoteZ := (((p.1 : Nat) : Int), p.2.map rdgZ)
theorem ob_own {cs : List (List V)} {m : Nat} (hm : 1 ≤ m) (hC : ∀ c ∈ cs, c.length = m) : ∀ n : Nat, n ≤ cs.length → ∃ a : Int, a < ((n : Nat) : Int) ∧ ((notesTo cs n).map noteZ).foldl (obStep (cs.map fun c => c.getD 0 .non) m) (some (-1, (cs.map fun c => c.getD 0 .non).map fun e => List.replicate m e)) = some (a, cs.take n ++ (cs.drop n).map fun c => List.replicate m (c.getD 0 .non))
  | 0, _ => ⟨-1, by omega, by
    show some _ = _
    rw [List.map_map]
    rfl⟩
  | n + 1, hn => by
    obtain ⟨a, ha, h⟩ := ob_own hm hC n (by omega)
    have hl : n < cs.length := by omega
    have ec := List.getElem?_eq_getElem hl
    have egd : cs.getD n [] = cs[n] := by rw [List.getD_eq_getElem?_getD, ec]; rfl
    have ed : cs.drop n = cs[n] :: cs.drop (n + 1) := List.drop_eq_getElem_cons hl
    have et : cs.take (n + 1) = cs.take n ++ [cs[n]] := by rw [List.take_add_one, ec]; rfl
    have hcl := hC _ (List.getElem_mem hl)
    have ees : (cs.map fun c => c.getD 0 .non).getD n .non = cs[n].getD 0 .non := by rw [List.getD_eq_getElem?_getD, List.getElem?_map, ec]; rfl
    rw [notesTo_step, egd, List.map_append, List.foldl_append, h, ed, et]
    generalize cs[n] = c at hcl ees
    by_cases hr : rdgsOf c = []
    · rw [if_pos hr]
      refine ⟨a, by omega, ?_⟩
      show some _ = _
      have e := const_of hr
      rw [hcl] at e
      rw [List.map_cons, ← e, List.append_assoc]
      rfl
    · rw [if_neg hr]
      refine ⟨((n : Nat) : Int), by omega, ?_⟩
      show obStep (cs.map fun c => c.getD 0 .non) m (some _) (noteZ (n, rdgsOf c)) = _
      show (if a < ((n : Nat) : Int) ∧ ((n : Nat) : Int) < (((cs.map fun c => c.getD 0 .non).length : Nat) : Int) then (colBack ((cs.map fun c => c.getD 0 .non).getD ((n : Nat) : Int).toNat .non) m ((rdgsOf c).map rdgZ)).map _ else none) = _
      have hown := colBack_own hr
      rw [hcl] at hown
      rw [if_pos ⟨ha, by rw [List.length_map]; omega⟩, Int.toNat_natCast, ees, hown]
      show some (((n : Nat) : Int), (cs.take n ++ _).set n c) = _
      have hln : (cs.take n).length = n := by rw [List.length_take]; omega
      rw [List.map_cons, List.set_append_right n c (by omega), hln, Nat.sub_self, List.append_assoc]
      rfl
theorem ob_all {cs : List (List V)} {m : Nat} (hm : 1 ≤ m) (hC : ∀ c ∈ cs, c.length = m) : ∃ a : Int, obAll (cs.map fun c => c.getD 0 .non) m ((notesTo cs cs.length).map noteZ) = some (a, cs) := by
  obtain ⟨a, _, h⟩ := ob_own hm hC cs.length (Nat.le_refl _)
  refine ⟨a, ?_⟩
  rw [List.take_length, List.drop_length, List.map_nil, List.append_nil] at h
  exact h
theorem cutTail {α : Type} (g : α → V) (xs : List α) (n : Nat) : cutV (xs.map g) (some ((n : Nat) : Int)) none = (xs.drop n).map g := by
  unfold cutV
  rw [HT.sIx_none, HT.sIx_nat, List.length_map, List.map_drop]
  have e : (xs.map g).drop (min n xs.length) = (xs.map g).drop n := by
    by_cases h : n ≤ xs.length
    · rw [Nat.min_eq_left h]
    · rw [Nat.min_eq_right (by omega), List.drop_of_length_le (by rw [List.length_map]; omega), List.drop_of_length_le (by rw [List.length_map]; omega)]
  rw [e]
  exact List.take_of_length_le (by rw [List.length_drop, List.length_map]; omega)
theorem cutBut {α : Type} (g : α → V) (xs : List α) : cutV (xs.map g) none (some (-1)) = (xs.dropLast).map g := by
  unfold cutV
  have e1 : HT.sIx (xs.map g).length (xs.map g).length (some (-1)) = ((-1 : Int) + ((xs.map g).length : Int)).toNat := by
    show (if (-1 : Int) < 0 then ((-1 : Int) + ((xs.map g).length : Int)).toNat else min ((-1 : Int)).toNat (xs.map g).length) = _
    rw [if_pos (by decide)]
  rw [e1, HT.sIx_none, List.drop_zero, Nat.sub_zero, List.length_map, ← List.map_take, List.dropLast_eq_take]
  congr 2
  omega
theorem cutOneM {α : Type} (g : α → V) (xs : List α) (i : Nat) : cutV (xs.map g) (some ((i : Nat) : Int)) (some (((i : Nat) : Int) + 1)) = ((xs.drop i).take 1).map g := by
  have e : ((i : Nat) : Int) + 1 = ((i + 1 : Nat) : Int) := by omega
  unfold cutV
  rw [e, HT.sIx_nat, HT.sIx_nat, List.length_map, ← List.map_drop, ← List.map_take]
  congr 1
  by_cases h : i + 1 ≤ xs.length
  · rw [Nat.min_eq_left (show i ≤ xs.length by omega), Nat.min_eq_left h, Nat.add_sub_cancel_left]
  · rw [Nat.min_eq_right (show xs.length ≤ i + 1 by omega), List.take_of_length_le (by rw [List.length_drop]; omega), List.take_of_length_le (by rw [List.length_drop]; omega)]
    by_cases h2 : i ≤ xs.length
    · rw [Nat.min_eq_left h2]
    · rw [Nat.min_eq_right (by omega), List.drop_of_length_le (Nat.le_refl _), List.drop_of_length_le (by omega)]
theorem atI_last' {xs : List V} {v : V} (h : xs[xs.length - 1]? = some v) (h0 : 0 < xs.length) : atI xs (-1) = some v := by
  unfold atI
  rw [← h]
  have e : ixN xs.length (-1) = some (xs.length - 1) := by
    unfold ixN
    rw [if_neg (by omega)]
    rw [if_pos (by omega)]
    congr 1
    omega
  rw [e]
  rfl
def OthR (m : Nat) (rs zs : List Int) : Prop := rs.Pairwise (· < ·) → rs ≠ [] → (zs ≠ [] ∧ zs.Pairwise (· < ·) ∧ ∀ r ∈ zs, 0 < r ∧ r < ((m : Nat) : Int)) → zs = rs
def spOR (K : PySem.W.Frag) : Sp := fun vs H Q _ => ∃ (r : Addr) (rs : List Int) (wy : Int) (m : Nat), vs = [.ref r, .int wy, .int ((m : Nat) : Int)] ∧ SqT K H r (rs.map V.int) ∧ rs.length ≤ 30 ∧
  ∀ (H' : Hp) (r' : Addr) (zs : List Int), Same H H' → SqT K H' r' (zs.map V.int) → OthR m rs zs → Q (.ref r') H'
theorem scOR : FnScope ["rows", "way", "many"] ["rows", "way", "many"] (defScope sOR) := ⟨rfl, rfl, rfl, by decide +kernel, rfl, by decide +kernel, by decide +kernel⟩
theorem ok_or {f : Addr} {fd : FuncData} (F : Fun K "_law_other_rows" "_law_other_rows" sOR f fd) (mlen : mg "len" = none) (mtup : mg "tuple" = none) (mrev : mg "reversed" = none) : FnOk P w K mg base CX0 1 f fd ["rows", "way", "many"] (spOR K) := by
  refine F.ok scOR (fun vs H Q E h => ?_) (fun cdv A outer s H vs Q E hr h => ?_)
  · obtain ⟨r, rs, wy, m, rfl, _⟩ := h
    rfl
  · obtain ⟨r, rs, wy, m, rfl, hrs, hrl, q⟩ := h
    refine ⟨_, pss_cons (ps_if (pt_cmpR op_eq (pv 1) pe_int (nomark _)) (pss_one (ps_ret (pe_trev rfl (by rfl) mtup (by rfl) mrev (pv 0)))) pss_nil)
      (pss_cons (ps_if (pt_cmpR op_eq (pv 1) pe_int (nomark _)) (pss_one (ps_ret (pe_op op_catA (pe_tup (pa_cons pe_int pa_nil)) (pv 0)))) pss_nil)
      (pss_cons (ps_if (pt_cmpR op_eq (pv 1) pe_int (nomark _)) (pss_one (ps_ret (pe_op op_catA (pv 0) (pe_tup (pa_cons (pe_op op_add (pv 2) (pe_op op_mod (pe_callB call_len_seq (by rfl) mlen PySem.boot_len (pa_cons (pv 0) pa_nil)) pe_int)) pa_nil))))) pss_nil)
      (pss_cons (ps_if (pt_cmpR op_eq (pv 1) pe_int (nomark _)) (pss_one (ps_ret (pe_op op_catA (pe_slice sl_tupA (pv 0) po_none (po_some pe_int)) (pv 0)))) pss_nil)
      (pss_cons (ps_if (pt_cmpR op_eq (pv 1) pe_int (nomark _)) (pss_one (ps_ret (pe_tup pa_nil))) pss_nil)
      (pss_one (ps_ret (pe_op op_catA (pe_tup (pa_cons (pe_op op_sub (pe_un un_neg pe_int) (pe_callB call_len_seq (by rfl) mlen PySem.boot_len (pa_cons (pv 0) pa_nil))) pa_nil)) (pv 0)))))))), ?_⟩
    have z1 : (1 : Nat) ≤ sizeLine := few (by omega)
    have hml : (rs.map V.int).length = rs.length := List.length_map ..
    refine ⟨_, rfl, rfl, _, rfl, ite2 (fun _ => ?_) (fun _ => ?_)⟩
    · refine ⟨_, rfl, r, _, rfl, hrs, (by rw [hml]; exact few (by omega)), fun H1 r1 S1 h1 => ?_⟩
      rw [← List.map_reverse] at h1
      exact q _ r1 rs.reverse S1 h1 fun h _ hz => lt_irr_list h hz.2.1
    refine ⟨_, rfl, rfl, _, rfl, ite2 (fun _ => ?_) (fun _ => ?_)⟩
    · refine ⟨z1, fun a ha => ⟨_, rfl, a, r, _, _, rfl, rfl, SqT.of upd_same, sameT (same_upd ha) hrs, (by rw [hml]; exact few (by show 1 + _ ≤ _; omega)), fun b H2 S2 h2 => ?_⟩⟩
      exact q _ b (0 :: rs) ((same_upd ha).trans S2) h2 fun _ _ hz => absurd (hz.2.2 0 List.mem_cons_self).1 (Int.lt_irrefl _)
    refine ⟨_, rfl, rfl, _, rfl, ite2 (fun _ => ?_) (fun _ => ?_)⟩
    · refine ⟨_, rfl, _, rfl, _, rfl, r, _, rfl, .inr hrs, _, _, rfl, rfl, (by show (0 : Int) < 3; decide), _, _, rfl, rfl, z1, fun a ha => ⟨r, a, _, _, rfl, rfl, sameT (same_upd ha) hrs, SqT.of upd_same, (by rw [hml]; exact few (by show _ + 1 ≤ _; omega)), fun b H2 S2 h2 => ?_⟩⟩
      refine q _ b (rs ++ [((m : Nat) : Int) + (((rs.map V.int).length : Nat) : Int) % 3]) ((same_upd ha).trans S2) (by rw [List.map_append]; exact h2) fun _ _ hz => ?_
      have := (hz.2.2 _ (List.mem_append_right _ List.mem_cons_self)).2
      have := Int.emod_nonneg (((rs.map V.int).length : Nat) : Int) (show (3 : Int) ≠ 0 by decide)
      omega
    refine ⟨_, rfl, rfl, _, rfl, ite2 (fun _ => ?_) (fun _ => ?_)⟩
    · refine ⟨_, rfl, _, rfl, cutTup hrs fun a H1 S1 h1 => ?_⟩
      rw [show cutV (rs.map V.int) none (some 1) = _ from cutTake V.int rs 1] at h1
      refine ⟨_, rfl, a, r, _, _, rfl, rfl, h1, sameT S1 hrs, (by rw [hml, List.length_map, List.length_take]; exact few (by omega)), fun b H2 S2 h2 => ?_⟩
      exact q _ b (rs.take 1 ++ rs) (S1.trans S2) (by rw [List.map_append]; exact h2) fun _ hn hz => (rw_twice hn hz.2.1).elim
    refine ⟨_, rfl, rfl, _, rfl, ite2 (fun _ => ?_) (fun _ => ?_)⟩
    · exact ⟨Nat.zero_le _, fun a ha => q _ a [] (same_upd ha) (SqT.of upd_same) fun _ _ hz => absurd rfl hz.1⟩
    · refine ⟨_, rfl, _, rfl, r, _, rfl, .inr hrs, _, _, rfl, rfl, z1, fun a ha => ⟨_, rfl, a, r, _, _, rfl, rfl, SqT.of upd_same, sameT (same_upd ha) hrs, (by rw [hml]; exact few (by show 1 + _ ≤ _; omega)), fun b H2 S2 h2 => ?_⟩⟩
      refine q _ b ((-1 - (((rs.map V.int).length : Nat) : Int)) :: rs) ((same_upd ha).trans S2) h2 fun _ _ hz => ?_
      have := (hz.2.2 _ List.mem_cons_self).1
      omega
def OthY (e : V) (m : Nat) (Y Z : List RdgZ) : Prop := VRd e m Y → Y ≠ [] → VRd e m Z → Z ≠ [] → Z = Y
theorem mem_chg {α : Type} {xs : List α} {k : Nat} {a : α} {R : α → Prop} (h : ∀ y ∈ xs, R y) (ha : R a) : ∀ y ∈ xs.take k ++ [a] ++ xs.drop (k + 1), R y := fun y hy => by
  rcases List.mem_append.mp hy with hy | hy
  · rcases List.mem_append.mp hy with hy | hy
    · exact h y (List.mem_of_mem_take hy)
    · rw [List.mem_singleton.mp hy]; exact ha
  · exact h y (List.mem_of_mem_drop hy)
theorem map_chg {α β : Type} (f : α → β) (xs : List α) (k : Nat) (a : α) : (xs.take k ++ [a] ++ xs.drop (k + 1)).map f = (xs.map f).take k ++ [f a] ++ (xs.map f).drop (k + 1) := by
  rw [List.map_append, List.map_append, List.map_take, List.map_drop]
  rfl
def spORd (K : PySem.W.Frag) : Sp := fun vs H Q _ => ∃ (e : V) (t : Addr) (xs : List (Addr × RdgZ)) (wy : Int) (k m : Nat), vs = [e, .ref t, .int wy, .int ((k : Nat) : Int), .int ((m : Nat) : Int)] ∧ Ent e ∧ SqT K H t (xs.map fun y => V.ref y.1) ∧ (∀ y ∈ xs, RdgAtZ K H y.1 y.2) ∧ (∀ y ∈ xs, y.2.2.length ≤ 30) ∧ k < xs.length ∧ xs.length ≤ 30 ∧
  ∀ (H' : Hp) (t' : Addr) (zs : List (Addr × RdgZ)), Same H H' → SqT K H' t' (zs.map fun y => V.ref y.1) → (∀ y ∈ zs, RdgAtZ K H' y.1 y.2) → OthY e m (xs.map fun y => y.2) (zs.map fun y => y.2) → Q (.ref t') H'
theorem scORd : FnScope ["base", "readings", "way", "at", "many", "one", "rows"] ["base", "readings", "way", "at", "many"] (defScope sORd) := ⟨rfl, rfl, rfl, by decide +kernel, rfl, by decide +kernel, by decide +kernel⟩
theorem ok_ord {f gO : Addr} {fd dO : FuncData} (F : Fun K "_law_other_readings" "_law_other_readings" sORd f fd) (DO : Dfn K mg "_law_other_rows" sOR gO dO ["rows", "way", "many"]) (mlen : mg "len" = none) (mtup : mg "tuple" = none) (mrev : mg "reversed" = none) (msort : mg "sorted" = none) : FnOk P w K mg base CX0 2 f fd ["base", "readings", "way", "at", "many"] (spORd K) := by
  have GO : FnOk P w K mg base CX0 1 gO dO ["rows", "way", "many"] (spOR K) := ok_or DO.fn mlen mtup mrev
  refine F.ok scORd (fun vs H Q E h => ?_) (fun cdv A outer s H vs Q E hr h => ?_)
  · obtain ⟨e, t, xs, wy, k, m, rfl, _⟩ := h
    rfl
  · obtain ⟨e, t, xs, wy, k, m, rfl, he, ht, hX, hL, hk, hxl, q⟩ := h
    refine ⟨_, pss_cons (ps_set (i := 5) scORd.nd rfl (Or.inl rfl) (pe_ix ix_tup (pv 1) (pv 3) (fun _ _ => rfl)))
      (pss_cons (ps_if (pt_cmpR op_eq (pv 2) pe_int (nomark _)) (pss_one (ps_ret (pe_tup pa_nil))) pss_nil)
      (pss_cons (ps_if (pt_cmpR op_eq (pv 2) pe_int (nomark _)) (pss_one (ps_ret (pe_op op_catA (pe_op op_catA (pe_slice sl_tupA (pv 1) po_none (po_some (pv 3))) (pe_tup (pa_cons (pe_tup (pa_cons (pv 0) (pa_cons (pe_ix ix_tup (pv 5) pe_int (fun _ _ => rfl)) pa_nil))) pa_nil))) (pe_slice sl_tupA (pv 1) (po_some (pe_op op_add (pv 3) pe_int)) po_none)))) pss_nil)
      (pss_cons (ps_if (pt_cmpR op_eq (pv 2) pe_int (nomark _)) (pss_one (ps_ret (pe_op op_catA (pv 1) (pe_tup (pa_cons (pe_tup (pa_cons (pe_ix ix_tup (pv 5) pe_int (fun _ _ => rfl)) (pa_cons (pe_tup (pa_cons (pe_op op_sub (pv 4) pe_int) pa_nil)) pa_nil))) pa_nil))))) pss_nil)
      (pss_cons (ps_if (pt_cmpR op_eq (pv 2) pe_int (nomark _)) (pss_cons (ps_set (i := 6) scORd.nd rfl (Or.inl rfl) (pe_callTy call_tuple_of (by rfl) mtup boot_tuple (pa_cons (pe_callB call_sortT (by rfl) msort PyProof.Rows.boot_sorted (pa_cons (pe_op op_catA (pe_ix ix_tup (pe_ix ix_tup (pv 1) pe_int (fun _ _ => rfl)) pe_int (fun _ _ => rfl)) (pe_ix ix_tup (pe_ix ix_tup (pv 1) (pe_un un_neg pe_int) (fun _ _ => rfl)) pe_int (fun _ _ => rfl))) pa_nil)) pa_nil)))
      (pss_one (ps_ret (pe_op op_catA (pe_slice sl_tupA (pv 1) po_none (po_some (pe_un un_neg pe_int))) (pe_tup (pa_cons (pe_tup (pa_cons (pe_ix ix_tup (pe_ix ix_tup (pv 1) (pe_un un_neg pe_int) (fun _ _ => rfl)) pe_int (fun _ _ => rfl)) (pa_cons (pv 6) pa_nil))) pa_nil)))))) pss_nil)
      (pss_cons (ps_if (pt_cmpR op_eq (pv 2) pe_int (nomark _)) (pss_one (ps_ret (pe_trev rfl (by rfl) mtup (by rfl) mrev (pv 1)))) pss_nil)
      (pss_one (ps_ret (pe_op op_catA (pe_op op_catA (pe_slice sl_tupA (pv 1) po_none (po_some (pv 3))) (pe_tup (pa_cons (pe_tup (pa_cons (pe_ix ix_tup (pv 5) pe_int (fun _ _ => rfl)) (pa_cons (pe_call GO hr (by rfl) DO.at_ DO.fn.kp DO.bn .nil pass0 (pa_cons (pe_ix ix_tup (pv 5) pe_int (fun _ _ => rfl)) (pa_cons (pv 2) (pa_cons (pv 4) pa_nil)))) pa_nil))) pa_nil))) (pe_slice sl_tupA (pv 1) (po_some (pe_op op_add (pv 3) pe_int)) po_none))))))))), ?_⟩
    have z1 : (1 : Nat) ≤ sizeLine := few (by omega)
    have z2 : (2 : Nat) ≤ sizeLine := few (by omega)
    have hgl : (xs.map fun y => V.ref y.1).length = xs.length := List.length_map ..
    have ek := List.getElem?_eq_getElem hk
    have hpm := List.getElem_mem hk
    have ap : atI (xs.map fun y => V.ref y.1) ((k : Nat) : Int) = some (.ref xs[k].1) := atI_nat (by rw [List.getElem?_map, ek]; rfl)
    generalize xs[k] = p at ek hpm ap
    have hpY : (xs.map fun y => y.2)[k]? = some p.2 := by rw [List.getElem?_map, ek]; rfl
    obtain ⟨hpe, r0, hp1, hp2⟩ := hX p hpm
    have hpl := hL p hpm
    refine ⟨_, rfl, _, rfl, t, _, _, _, rfl, rfl, ht, ap, ?_⟩
    -- no readings
    refine ⟨_, rfl, rfl, _, rfl, ite2 (fun _ => ?_) (fun _ => ?_)⟩
    · exact ⟨Nat.zero_le _, fun a ha => q _ a [] (same_upd ha) (SqT.of upd_same) (fun _ z => nomatch z) fun _ _ _ hz => absurd rfl hz⟩
    -- the base's entry
    refine ⟨_, rfl, rfl, _, rfl, ite2 (fun _ => ?_) (fun _ => ?_)⟩
    · refine ⟨_, rfl, _, rfl, _, rfl, cutTup ht fun b1 H1 S1 k1 => ?_⟩
      rw [cutTake (fun y : Addr × RdgZ => V.ref y.1) xs k] at k1
      refine ⟨_, rfl, _, rfl, p.1, _, _, _, rfl, rfl, sameT S1 hp1, rfl, z2, fun a1 ha1 => ⟨z1, fun a2 ha2 => ?_⟩⟩
      have T1 := same_upd (o := .tup [e, .ref r0]) ha1
      have T2 := same_upd (o := .tup [V.ref a1]) ha2
      have S3 := T1.trans T2
      refine ⟨b1, a2, _, _, rfl, rfl, sameT S3 k1, SqT.of upd_same, (by rw [List.length_map, List.length_take]; exact few (by show _ + 1 ≤ _; omega)), fun b3 H4 S4 k3 => ?_⟩
      have S04 := (S1.trans S3).trans S4
      refine ⟨_, rfl, _, rfl, _, _, rfl, rfl, _, rfl, ?_⟩
      try unfold tNoPart
      refine cutTup (sameT S04 ht) fun b4 H5 S5 k4 => ?_
      rw [show ((k : Nat) : Int) + 1 = ((k + 1 : Nat) : Int) from rfl, cutTail (fun y : Addr × RdgZ => V.ref y.1) xs (k + 1)] at k4
      refine ⟨b3, b4, _, _, rfl, rfl, sameT S5 k3, k4, (by rw [List.length_append, List.length_map, List.length_map, List.length_take, List.length_drop]; exact few (by show _ + 1 + _ ≤ _; omega)), fun b5 H6 S6 k5 => ?_⟩
      have S06 := (S04.trans S5).trans S6
      have S46 := (S4.trans S5).trans S6
      refine q _ b5 (xs.take k ++ [(a1, ((e, p.2.2) : RdgZ))] ++ xs.drop (k + 1)) S06 (by rw [List.map_append, List.map_append]; exact k5) (mem_chg (fun y hy => (hX y hy).mono S06) (RdgAtZ.mono S46 ⟨he, r0, SqT.of (T2 _ _ upd_same), sameT ((S1.trans T1).trans T2) hp2⟩)) fun _ _ hv _ => (rd_base (by rw [map_chg] at hv; exact hv)).elim
    -- an entry again
    refine ⟨_, rfl, rfl, _, rfl, ite2 (fun _ => ?_) (fun _ => ?_)⟩
    · refine ⟨_, rfl, _, rfl, p.1, _, _, _, rfl, rfl, hp1, rfl, _, rfl, _, _, rfl, rfl, z1, fun a1 ha1 => ⟨z2, fun a2 ha2 => ⟨z1, fun a3 ha3 => ?_⟩⟩⟩
      have T1 := same_upd (o := .tup [V.int (((m : Nat) : Int) - 1)]) ha1
      have T2 := same_upd (o := .tup [p.2.1, .ref a1]) ha2
      have T3 := same_upd (o := .tup [V.ref a2]) ha3
      have S3 := (T1.trans T2).trans T3
      refine ⟨t, a3, _, _, rfl, rfl, sameT S3 ht, SqT.of upd_same, (by rw [hgl]; exact few (by show _ + 1 ≤ _; omega)), fun b H4 S4 h4 => ?_⟩
      have S04 := S3.trans S4
      refine q _ b (xs ++ [(a2, (p.2.1, [((m : Nat) : Int) - 1]))]) S04 (by rw [List.map_append]; exact h4) (fun y hy => ?_) fun _ _ hv _ => ?_
      · rcases List.mem_append.mp hy with hy | hy
        · exact (hX y hy).mono S04
        · rw [List.mem_singleton.mp hy]
          exact ⟨hpe, a1, SqT.of (S4 _ _ (T3 _ _ upd_same)), SqT.of (S4 _ _ (T3 _ _ (T2 _ _ upd_same)))⟩
      · rw [List.map_append] at hv
        exact (rd_again (y := p.2) (List.mem_of_getElem? hpY) hv).elim
    -- rows of two readings
    refine ⟨_, rfl, rfl, _, rfl, ite2 (fun _ => ?_) (fun _ => ?_)⟩
    · have e0 := List.getElem?_eq_getElem (show 0 < xs.length by omega)
      have h0m := List.getElem_mem (show 0 < xs.length by omega)
      have a0 : atI (xs.map fun y => V.ref y.1) 0 = some (.ref xs[0].1) := atI_nat (j := 0) (by rw [List.getElem?_map, e0]; rfl)
      generalize xs[0] = g at e0 h0m a0
      have eL := List.getElem?_eq_getElem (show xs.length - 1 < xs.length by omega)
      have hLm := List.getElem_mem (show xs.length - 1 < xs.length by omega)
      have aL : atI (xs.map fun y => V.ref y.1) (-1) = some (.ref xs[xs.length - 1].1) := atI_last' (by rw [hgl, List.getElem?_map, eL]; rfl) (by rw [hgl]; omega)
      have eL2 : xs.getLast? = some xs[xs.length - 1] := by rw [List.getLast?_eq_getElem?, eL]
      generalize xs[xs.length - 1] = l at eL hLm aL eL2
      obtain ⟨hge, rg, hg1, hg2⟩ := hX g h0m
      obtain ⟨hle, rl, hl1, hl2⟩ := hX l hLm
      have lg := hL g h0m
      have ll := hL l hLm
      refine ⟨_, rfl, t, _, _, _, rfl, rfl, ht, a0, g.1, _, _, _, rfl, rfl, hg1, rfl, _, rfl, _, rfl, t, _, _, _, rfl, rfl, ht, aL, l.1, _, _, _, rfl, rfl, hl1, rfl, rg, rl, _, _, rfl, rfl, hg2, hl2, (by rw [List.length_map, List.length_map]; exact few (by omega)), fun c1 H1 S1 h1 => ?_⟩
      rw [← List.map_append] at h1
      refine ⟨c1, _, rfl, h1, (by rw [List.length_append]; omega), fun sr zs hsr hp => ⟨sr, _, rfl, .inl ⟨SqL.of upd_same, fun c2 hc2 => ?_⟩⟩⟩
      have S2 := (same_upd (o := .lst (zs.map V.int)) hsr).trans (same_upd (o := .tup (zs.map V.int)) hc2)
      have h2 : SqT K (upd (upd H1 sr (.lst (zs.map V.int))) c2 (.tup (zs.map V.int))) c2 (zs.map V.int) := SqT.of upd_same
      generalize upd (upd H1 sr (.lst (zs.map V.int))) c2 (.tup (zs.map V.int)) = H2 at S2 h2
      have S02 := S1.trans S2
      refine ⟨_, rfl, _, rfl, _, rfl, cutTup (sameT S02 ht) fun b1 H3 S3 k1 => ?_⟩
      rw [cutBut (fun y : Addr × RdgZ => V.ref y.1) xs] at k1
      have S03 := S02.trans S3
      refine ⟨_, rfl, _, rfl, t, _, _, _, rfl, rfl, sameT S03 ht, aL, l.1, _, _, _, rfl, rfl, sameT S03 hl1, rfl, _, rfl, z2, fun a1 ha1 => ⟨z1, fun a2 ha2 => ?_⟩⟩
      have T1 := same_upd (o := .tup [l.2.1, .ref c2]) ha1
      have T2 := same_upd (o := .tup [V.ref a1]) ha2
      refine ⟨b1, a2, _, _, rfl, rfl, sameT (T1.trans T2) k1, SqT.of upd_same, (by rw [List.length_map, List.length_dropLast]; exact few (by show _ + 1 ≤ _; omega)), fun b H4 S4 h4 => ?_⟩
      have S24 := ((S3.trans T1).trans T2).trans S4
      have S04 := S02.trans S24
      refine q _ b (xs.dropLast ++ [(a1, (l.2.1, zs))]) S04 (by rw [List.map_append]; exact h4) (fun y hy => ?_) fun hv0 _ hv _ => ?_
      · rcases List.mem_append.mp hy with hy | hy
        · exact (hX y (List.dropLast_subset _ hy)).mono S04
        · rw [List.mem_singleton.mp hy]
          exact ⟨hle, c2, SqT.of (S4 _ _ (T2 _ _ upd_same)), sameT S24 h2⟩
      · rw [List.map_append, List.map_dropLast] at hv
        exact (rd_both (f := g.2) (g := l.2) hv0 (by rw [List.getElem?_map, e0]; rfl) (by rw [List.getLast?_map, eL2]; rfl) hp hv).elim
    -- the other way round
    refine ⟨_, rfl, rfl, _, rfl, ite2 (fun _ => ?_) (fun _ => ?_)⟩
    · refine ⟨_, rfl, t, _, rfl, ht, (by rw [hgl]; exact few (by omega)), fun H1 b S1 h1 => ?_⟩
      rw [← List.map_reverse] at h1
      refine q _ b xs.reverse S1 h1 (fun y hy => (hX y (List.mem_reverse.mp hy)).mono S1) fun hv0 _ hv _ => ?_
      rw [List.map_reverse] at hv ⊢
      exact rd_rev hv0 hv
    -- one reading's rows
    · refine ⟨_, rfl, _, rfl, _, rfl, cutTup ht fun b1 H1 S1 k1 => ?_⟩
      rw [cutTake (fun y : Addr × RdgZ => V.ref y.1) xs k] at k1
      refine ⟨_, rfl, p.1, _, _, _, rfl, rfl, sameT S1 hp1, rfl, _, rfl, p.1, _, _, _, rfl, rfl, sameT S1 hp1, rfl, _, rfl, _, rfl, r0, p.2.2, wy, m, rfl, sameT S1 hp2, hpl, fun H2 c zs S2 hc ho => ⟨z2, fun a1 ha1 => ⟨z1, fun a2 ha2 => ?_⟩⟩⟩
      have T1 := same_upd (o := .tup [p.2.1, .ref c]) ha1
      have T2 := same_upd (o := .tup [V.ref a1]) ha2
      have S3 := (S2.trans T1).trans T2
      refine ⟨b1, a2, _, _, rfl, rfl, sameT S3 k1, SqT.of upd_same, (by rw [List.length_map, List.length_take]; exact few (by show _ + 1 ≤ _; omega)), fun b3 H4 S4 k3 => ?_⟩
      have S04 := (S1.trans S3).trans S4
      refine ⟨_, rfl, _, rfl, _, _, rfl, rfl, _, rfl, ?_⟩
      try unfold tNoPart
      refine cutTup (sameT S04 ht) fun b4 H5 S5 k4 => ?_
      rw [show ((k : Nat) : Int) + 1 = ((k + 1 : Nat) : Int) from rfl, cutTail (fun y : Addr × RdgZ => V.ref y.1) xs (k + 1)] at k4
      refine ⟨b3, b4, _, _, rfl, rfl, sameT S5 k3, k4, (by rw [List.length_append, List.length_map, List.length_map, List.length_take, List.length_drop]; exact few (by show _ + 1 + _ ≤ _; omega)), fun b5 H6 S6 k5 => ?_⟩
      have S06 := (S04.trans S5).trans S6
      have S46 := (S4.trans S5).trans S6
      refine q _ b5 (xs.take k ++ [(a1, ((p.2.1, zs) : RdgZ))] ++ xs.drop (k + 1)) S06 (by rw [List.map_append, List.map_append]; exact k5) (mem_chg (fun y hy => (hX y hy).mono S06) (RdgAtZ.mono S46 ⟨hpe, c, SqT.of (T2 _ _ upd_same), sameT (T1.trans T2) hc⟩)) fun hv0 _ hv _ => ?_
      rw [map_chg] at hv ⊢
      exact rd_in hv0 hpY hv ho
def OthN (es : List V) (m : Nat) (N M : List NoteZ) : Prop := obAll es m N ≠ none → obAll es m M ≠ none → M = N
theorem draw_nat (c k : Int) {m : Int} (h : 0 < m) : ∃ n : Nat, drawD c k m = ((n : Nat) : Int) ∧ ((n : Nat) : Int) < m := ⟨(drawD c k m).toNat, by have := draw_lo c k h; omega, by have := draw_lo c k h; have := draw_hi c k h; omega⟩
def spSpo (K : PySem.W.Frag) : Sp := fun vs H Q _ => ∃ (p t : Addr) (cs : List (Addr × List V)) (m : Nat) (ns : List (Addr × NoteY)) (c : Int), vs = [.ref p, .ref t, .int c] ∧ Builtin.Int.intBits c ≤ 1048576 ∧ SqT K H p (cs.map fun x => V.ref x.1) ∧ ColsAt H cs m ∧ cs ≠ [] ∧ cs.length ≤ 1000 ∧ 1 ≤ m ∧ m ≤ 30 ∧ SqT K H t (ns.map fun y => V.ref y.1) ∧ (∀ y ∈ ns, NoteAtZ K H y.1 y.2) ∧ (∀ y ∈ ns, 0 ≤ y.2.1 ∧ y.2.1 < ((cs.length : Nat) : Int) ∧ y.2.2 ≠ [] ∧ y.2.2.length ≤ 30 ∧ ∀ z ∈ y.2.2, z.2.2.length ≤ 30) ∧ ns ≠ [] ∧ ns.length ≤ 1000 ∧
  ∀ (H' : Hp) (t' : Addr) (ms : List (Addr × NoteY)), Same H H' → SqT K H' t' (ms.map fun y => V.ref y.1) → (∀ y ∈ ms, NoteAtZ K H' y.1 y.2) → OthN (cs.map fun x => x.2.getD 0 .non) m (ns.map fun y => toldZ y.2) (ms.map fun y => toldZ y.2) → Q (.ref t') H'
theorem scSpo : FnScope ["columns", "notes", "cell", "way", "many", "at", "number", "readings", "which", "other"] ["columns", "notes", "cell"] (defScope sSpo) := ⟨rfl, rfl, rfl, by decide +kernel, rfl, by decide +kernel, by decide +kernel⟩
theorem ok_spo {f gD gY gO : Addr} {fd dD dY dO : FuncData} (F : Fun K "_law_spoilt" "_law_spoilt" sSpo f fd) (DD : Dfn K mg "_law_draw" sDraw gD dD ["cell", "k", "many"]) (DY : Dfn K mg "_law_other_readings" sORd gY dY ["base", "readings", "way", "at", "many"]) (DO : Dfn K mg "_law_other_rows" sOR gO dO ["rows", "way", "many"]) (mlen : mg "len" = none) (mtup : mg "tuple" = none) (mrev : mg "reversed" = none) (msort : mg "sorted" = none) : FnOk P w K mg base CX0 3 f fd ["columns", "notes", "cell"] (spSpo K) := by
  have GD : FnOk P w K mg base CX0 2 gD dD ["cell", "k", "many"] spDraw := (ok_draw DD.fn).mono (by decide)
  have GY : FnOk P w K mg base CX0 2 gY dY ["base", "readings", "way", "at", "many"] (spORd K) := ok_ord DY.fn DO mlen mtup mrev msort
  refine F.ok scSpo (fun vs H Q E h => ?_) (fun cdv A outer s H vs Q E hr h => ?_)
  · obtain ⟨p, t, cs, m, ns, c, rfl, _⟩ := h
    rfl
  · obtain ⟨p, t, cs, m, ns, c, rfl, hb, hp, hC, hcn, hcl, m1, m30, ht, hN, hF, hnn, hnl, q⟩ := h
    refine ⟨_, pss_cons (ps_set (i := 3) scSpo.nd rfl (Or.inl rfl) (pe_call GD hr (by rfl) DD.at_ DD.fn.kp DD.bn .nil pass0 (pa_cons (pv 2) (pa_cons pe_int (pa_cons pe_int pa_nil)))))
      (pss_cons (ps_set (i := 4) scSpo.nd rfl (Or.inl rfl) (pe_callB call_len_seq (by rfl) mlen PySem.boot_len (pa_cons (pe_ix ix_tup (pv 0) pe_int (fun _ _ => rfl)) pa_nil)))
      (pss_cons (ps_set (i := 5) scSpo.nd rfl (Or.inl rfl) (pe_call GD hr (by rfl) DD.at_ DD.fn.kp DD.bn .nil pass0 (pa_cons (pv 2) (pa_cons pe_int (pa_cons (pe_callB call_len_seq (by rfl) mlen PySem.boot_len (pa_cons (pv 1) pa_nil)) pa_nil)))))
      (pss_cons (ps_set (i := 6) scSpo.nd rfl (Or.inl rfl) (pe_ix ix_tup (pe_ix ix_tup (pv 1) (pv 5) (fun _ _ => rfl)) pe_int (fun _ _ => rfl)))
      (pss_cons (ps_set (i := 7) scSpo.nd rfl (Or.inl rfl) (pe_ix ix_tup (pe_ix ix_tup (pv 1) (pv 5) (fun _ _ => rfl)) pe_int (fun _ _ => rfl)))
      (pss_cons (ps_if (pt_cmpR op_lt (pv 3) pe_int (nomark _)) (pss_one (ps_ret (pe_op op_catA (pv 1) (pe_tup (pa_cons (pe_tup (pa_cons (pe_ix ix_list (pe_lst (pa_cons (pe_callB call_len_seq (by rfl) mlen PySem.boot_len (pa_cons (pv 0) pa_nil)) (pa_cons (pe_op op_sub (pe_un un_neg pe_int) (pv 6)) pa_nil))) (pv 3) (fun _ _ => rfl)) (pa_cons (pv 7) pa_nil))) pa_nil))))) pss_nil)
      (pss_cons (ps_if (pt_cmpR op_eq (pv 3) pe_int (nomark _)) (pss_one (ps_ret (pe_op op_catA (pe_op op_catA (pe_slice sl_tupA (pv 1) po_none (po_some (pv 5))) (pe_slice sl_tupA (pv 1) (po_some (pv 5)) (po_some (pe_op op_add (pv 5) pe_int)))) (pe_slice sl_tupA (pv 1) (po_some (pv 5)) po_none)))) pss_nil)
      (pss_cons (ps_if (pt_cmpR op_eq (pv 3) pe_int (nomark _)) (pss_one (ps_ret (pe_trev rfl (by rfl) mtup (by rfl) mrev (pv 1)))) pss_nil)
      (pss_cons (ps_if (pt_cmpR op_eq (pv 3) pe_int (nomark _)) (pss_one (ps_ret (pv 1))) pss_nil)
      (pss_cons (ps_set (i := 8) scSpo.nd rfl (Or.inl rfl) (pe_call GD hr (by rfl) DD.at_ DD.fn.kp DD.bn .nil pass0 (pa_cons (pv 2) (pa_cons pe_int (pa_cons (pe_callB call_len_seq (by rfl) mlen PySem.boot_len (pa_cons (pv 7) pa_nil)) pa_nil)))))
      (pss_cons (ps_set (i := 9) scSpo.nd rfl (Or.inl rfl) (pe_call GY hr (by rfl) DY.at_ DY.fn.kp DY.bn .nil pass0 (pa_cons (pe_ix ix_tup (pe_ix ix_tup (pv 0) (pv 6) (fun _ _ => rfl)) pe_int (fun _ _ => rfl)) (pa_cons (pv 7) (pa_cons (pv 3) (pa_cons (pv 8) (pa_cons (pv 4) pa_nil)))))))
      (pss_one (ps_ret (pe_op op_catA (pe_op op_catA (pe_slice sl_tupA (pv 1) po_none (po_some (pv 5))) (pe_tup (pa_cons (pe_tup (pa_cons (pv 6) (pa_cons (pv 9) pa_nil))) pa_nil))) (pe_slice sl_tupA (pv 1) (po_some (pe_op op_add (pv 5) pe_int)) po_none)))))))))))))), ?_⟩
    have z1 : (1 : Nat) ≤ sizeLine := few (by omega)
    have z2 : (2 : Nat) ≤ sizeLine := few (by omega)
    have hgl : (ns.map fun y => V.ref y.1).length = ns.length := List.length_map ..
    have hgc : (cs.map fun x => V.ref x.1).length = cs.length := List.length_map ..
    have hn0 : 0 < ns.length := List.length_pos_iff.mpr hnn
    have hc0 : 0 < cs.length := List.length_pos_iff.mpr hcn
    refine ⟨_, rfl, _, _, _, rfl, hb, by decide, by decide, by decide, ?_⟩
    obtain ⟨wy, ewy, hwy⟩ := draw_nat c 81 (m := 16) (by decide)
    rw [ewy]
    have e0 := List.getElem?_eq_getElem hc0
    obtain ⟨d1, d2, _⟩ := hC _ (List.getElem_mem hc0)
    have a0 : atI (cs.map fun x => V.ref x.1) 0 = some (.ref cs[0].1) := atI_nat (j := 0) (by rw [List.getElem?_map, e0]; rfl)
    refine ⟨_, rfl, p, _, _, _, rfl, rfl, hp, a0, cs[0].1, _, rfl, .inr (SqT.of d1), ?_⟩
    rw [d2]
    refine ⟨_, rfl, _, rfl, t, _, rfl, .inr ht, _, _, _, rfl, hb, by decide, by decide, (show (0 : Int) < (((ns.map fun y => V.ref y.1).length : Nat) : Int) by omega), ?_⟩
    obtain ⟨k, ek, hk⟩ := draw_nat c 82 (m := (((ns.map fun y => V.ref y.1).length : Nat) : Int)) (by omega)
    rw [ek]
    have hkl : k < ns.length := by omega
    have eN := List.getElem?_eq_getElem hkl
    have hym := List.getElem_mem hkl
    have ay : atI (ns.map fun y => V.ref y.1) ((k : Nat) : Int) = some (.ref ns[k].1) := atI_nat (by rw [List.getElem?_map, eN]; rfl)
    generalize ns[k] = y at eN hym ay
    obtain ⟨n3, qa, n4, n5⟩ := hN y hym
    obtain ⟨f1, f2, f3, f4, f5⟩ := hF y hym
    have hyT : (ns.map fun y => toldZ y.2)[k]? = some (toldZ y.2) := by rw [List.getElem?_map, eN]; rfl
    refine ⟨_, rfl, _, rfl, t, _, _, _, rfl, rfl, ht, ay, y.1, _, _, _, rfl, rfl, n4, rfl, ?_⟩
    refine ⟨_, rfl, _, rfl, t, _, _, _, rfl, rfl, ht, ay, y.1, _, _, _, rfl, rfl, n4, rfl, ?_⟩
    -- a column that is not there
    refine ⟨_, rfl, _, _, rfl, rfl, _, rfl, ite2 (fun h => ?_) (fun h => ?_)⟩
    · have hw2 : ((wy : Nat) : Int) < 2 := of_decide_eq_true h
      refine ⟨_, rfl, _, rfl, p, _, rfl, .inr hp, _, rfl, _, rfl, _, _, rfl, rfl, z2, fun l hl => ?_⟩
      have T1 := same_upd (o := .lst [V.int (((cs.map fun x => V.ref x.1).length : Nat) : Int), .int (-1 - y.2.1)]) hl
      obtain ⟨x, ex, hx⟩ : ∃ x : Int, [V.int (((cs.map fun x => V.ref x.1).length : Nat) : Int), .int (-1 - y.2.1)][wy]? = some (.int x) ∧ ¬ (0 ≤ x ∧ x < ((cs.length : Nat) : Int)) := by
        match wy, hw2 with
        | 0, _ => exact ⟨_, rfl, by omega⟩
        | 1, _ => exact ⟨_, rfl, by omega⟩
        | n + 2, h => omega
      refine ⟨_, rfl, l, _, _, _, rfl, rfl, SqL.of upd_same, atI_nat ex, _, rfl, z2, fun a1 ha1 => ⟨z1, fun a2 ha2 => ?_⟩⟩
      have T2 := same_upd (o := .tup [V.int x, .ref qa]) ha1
      have T3 := same_upd (o := .tup [V.ref a1]) ha2
      have S3 := (T1.trans T2).trans T3
      refine ⟨t, a2, _, _, rfl, rfl, sameT S3 ht, SqT.of upd_same, (by rw [hgl]; exact few (by show _ + 1 ≤ _; omega)), fun b H4 S4 h4 => ?_⟩
      have S04 := S3.trans S4
      refine q _ b (ns ++ [(a1, (x, y.2.2))]) S04 (by rw [List.map_append]; exact h4) (fun z hz => ?_) fun _ hv => ?_
      · rcases List.mem_append.mp hz with hz | hz
        · exact (hN z hz).mono S04
        · rw [List.mem_singleton.mp hz]
          exact ⟨fun w hw => (n3 w hw).mono S04, qa, SqT.of (S4 _ _ (T3 _ _ upd_same)), sameT S04 n5⟩
      · rw [List.map_append] at hv
        exact absurd (way_end m1 (by rw [List.length_map]; exact hx)) hv
    -- a note twice
    refine ⟨_, rfl, rfl, _, rfl, ite2 (fun _ => ?_) (fun _ => ?_)⟩
    · refine ⟨_, rfl, _, rfl, _, rfl, cutTup ht fun b1 H1 S1 k1 => ?_⟩
      rw [cutTake (fun y : Addr × NoteY => V.ref y.1) ns k] at k1
      refine ⟨_, rfl, _, rfl, _, rfl, _, rfl, _, _, rfl, rfl, _, rfl, ?_⟩
      refine cutTup (sameT S1 ht) fun b2 H2 S2 k2 => ?_
      rw [cutOneM (fun y : Addr × NoteY => V.ref y.1) ns k] at k2
      refine ⟨b1, b2, _, _, rfl, rfl, sameT S2 k1, k2, (by rw [List.length_map, List.length_map, List.length_take, List.length_take]; exact few (by omega)), fun b3 H3 S3 k3 => ?_⟩
      have S03 := (S1.trans S2).trans S3
      refine ⟨_, rfl, _, rfl, _, rfl, ?_⟩
      try unfold tNoPart
      refine cutTup (sameT S03 ht) fun b4 H4 S4 k4 => ?_
      rw [cutTail (fun y : Addr × NoteY => V.ref y.1) ns k] at k4
      refine ⟨b3, b4, _, _, rfl, rfl, sameT S4 k3, k4, (by rw [List.length_append, List.length_map, List.length_map, List.length_map, List.length_take, List.length_take, List.length_drop]; exact few (by omega)), fun b5 H5 S5 k5 => ?_⟩
      have S05 := (S03.trans S4).trans S5
      refine q _ b5 (ns.take k ++ (ns.drop k).take 1 ++ ns.drop k) S05 (by rw [List.map_append, List.map_append]; exact k5) (fun z hz => (hN z ?_).mono S05) fun _ hv => ?_
      · rcases List.mem_append.mp hz with hz | hz
        · rcases List.mem_append.mp hz with hz | hz
          · exact List.mem_of_mem_take hz
          · exact List.mem_of_mem_drop (List.mem_of_mem_take hz)
        · exact List.mem_of_mem_drop hz
      · rw [List.map_append, List.map_append, List.map_take, List.map_take, List.map_drop] at hv
        exact absurd (way_twice m1 (by rw [List.length_map]; exact hkl)) hv
    -- the other way round
    refine ⟨_, rfl, rfl, _, rfl, ite2 (fun _ => ?_) (fun _ => ?_)⟩
    · refine ⟨_, rfl, t, _, rfl, ht, (by rw [hgl]; exact few (by omega)), fun H1 b S1 h1 => ?_⟩
      rw [← List.map_reverse] at h1
      refine q _ b ns.reverse S1 h1 (fun z hz => (hN z (List.mem_reverse.mp hz)).mono S1) fun hv0 hv => ?_
      rw [List.map_reverse] at hv ⊢
      exact way_rev m1 hv0 hv
    -- as they are
    refine ⟨_, rfl, rfl, _, rfl, ite2 (fun _ => ⟨_, rfl, q _ t ns (Same.refl _) ht hN fun _ _ => rfl⟩) (fun _ => ?_)⟩
    -- other readings
    have hyl : (y.2.2.map fun z => V.ref z.1).length = y.2.2.length := List.length_map ..
    have hy0 : 0 < y.2.2.length := List.length_pos_iff.mpr f3
    refine ⟨_, rfl, _, rfl, qa, _, rfl, .inr n5, _, _, _, rfl, hb, by decide, by decide, (show (0 : Int) < (((y.2.2.map fun z => V.ref z.1).length : Nat) : Int) by omega), ?_⟩
    obtain ⟨j, ej, hj⟩ := draw_nat c 83 (m := (((y.2.2.map fun z => V.ref z.1).length : Nat) : Int)) (by omega)
    rw [ej]
    obtain ⟨n, en⟩ : ∃ n : Nat, y.2.1 = ((n : Nat) : Int) := ⟨y.2.1.toNat, by omega⟩
    have hnc : n < cs.length := by omega
    have eC := List.getElem?_eq_getElem hnc
    obtain ⟨c1, c2, c3⟩ := hC _ (List.getElem_mem hnc)
    have aC : atI (cs.map fun x => V.ref x.1) y.2.1 = some (.ref cs[n].1) := by rw [en]; exact atI_nat (by rw [List.getElem?_map, eC]; rfl)
    have egd : (cs.map fun x => x.2.getD 0 .non).getD y.2.1.toNat .non = cs[n].2.getD 0 .non := by
      rw [List.getD_eq_getElem?_getD, en, Int.toNat_natCast, List.getElem?_map, eC]
      rfl
    generalize cs[n] = col at eC c1 c2 c3 aC egd
    have eh := List.getElem?_eq_getElem (show 0 < col.2.length by omega)
    have ehd : col.2.getD 0 .non = col.2[0] := by rw [List.getD_eq_getElem?_getD, eh]; rfl
    have a1 : atI col.2 0 = some (col.2.getD 0 .non) := atI_nat (j := 0) (by rw [ehd]; exact eh)
    have hE : Ent (col.2.getD 0 .non) := by rw [ehd]; exact c3 _ (List.getElem_mem _)
    refine ⟨_, rfl, _, rfl, p, _, _, _, rfl, rfl, hp, aC, col.1, _, _, _, rfl, rfl, SqT.of c1, a1, _, rfl, _, rfl, _, rfl, _, rfl, _, qa, y.2.2, _, j, m, rfl, hE, n5, n3, f5, by omega, f4, fun H1 o zs S1 ho hz hO => ?_⟩
    refine ⟨_, rfl, _, rfl, _, rfl, cutTup (sameT S1 ht) fun b1 H2 S2 k1 => ?_⟩
    rw [cutTake (fun y : Addr × NoteY => V.ref y.1) ns k] at k1
    refine ⟨_, rfl, _, rfl, z2, fun x1 hx1 => ⟨z1, fun x2 hx2 => ?_⟩⟩
    have T3 := same_upd (o := .tup [V.int y.2.1, .ref o]) hx1
    have T4 := same_upd (o := .tup [V.ref x1]) hx2
    refine ⟨b1, x2, _, _, rfl, rfl, sameT (T3.trans T4) k1, SqT.of upd_same, (by rw [List.length_map, List.length_take]; exact few (by show _ + 1 ≤ _; omega)), fun b3 H5 S5 k3 => ?_⟩
    have S25 := (T3.trans T4).trans S5
    have S15 := S2.trans S25
    have S05 := S1.trans S15
    refine ⟨_, rfl, _, rfl, _, _, rfl, rfl, _, rfl, ?_⟩
    try unfold tNoPart
    refine cutTup (sameT S05 ht) fun b4 H6 S6 k4 => ?_
    rw [show ((k : Nat) : Int) + 1 = ((k + 1 : Nat) : Int) from rfl, cutTail (fun y : Addr × NoteY => V.ref y.1) ns (k + 1)] at k4
    refine ⟨b3, b4, _, _, rfl, rfl, sameT S6 k3, k4, (by rw [List.length_append, List.length_map, List.length_map, List.length_take, List.length_drop]; exact few (by show _ + 1 + _ ≤ _; omega)), fun b5 H7 S7 k5 => ?_⟩
    have S57 := S6.trans S7
    have S07 := S05.trans S57
    refine q _ b5 (ns.take k ++ [(x1, (y.2.1, zs))] ++ ns.drop (k + 1)) S07 (by rw [List.map_append, List.map_append]; exact k5) (mem_chg (fun z hz => (hN z hz).mono S07) ⟨fun w hw => (hz w hw).mono (S15.trans S57), o, SqT.of ((S5.trans S57) _ _ (T4 _ _ upd_same)), sameT (S15.trans S57) ho⟩) fun hv0 hv => ?_
    rw [map_chg] at hv ⊢
    exact way_in m1 hv0 hyT hv (by
      show OthY ((cs.map fun x => x.2.getD 0 .non).getD y.2.1.toNat .non) m (y.2.2.map fun z => z.2) (zs.map fun z => z.2)
      rw [egd]
      exact hO)
theorem boot_VE : bootBuiltins "ValueError" = some (.type "ValueError") := by decide +kernel
structure Kx (K : PySem.W.Frag) (CV cN cR cP cS cL cM cT cO : Addr) : Prop where
  kx : Exk K cN
  hit : Hits K cN CV
  own : PySem.W.kitOne K (.ref cN) (.ref cN) = some true
  val : PySem.W.kitOne K (.ref cN) (.type "ValueError") = some true
  oth : PySem.W.kitAny K (.ref cN) [.ref cL, .ref cM, .ref cP, .ref cR, .ref cS, .ref cO, .ref cT] = some false
def spKO (cN : Addr) : Sp := fun vs H Q _ => ∃ ea : Addr, vs = [.ref ea] ∧ H ea = some (excO ea cN) ∧ ∀ H', Same H H' → Q (.str (Str.ofString "refused")) H'
theorem scKO : FnScope ["found"] ["found"] (defScope sKO) := ⟨rfl, rfl, rfl, by decide +kernel, rfl, by decide +kernel, by decide +kernel⟩
theorem ok_ko {f CV cN cR cP cS cL cM cT cO : Addr} {fd : FuncData} (F : Fun K "_law_kind_of" "_law_kind_of" sKO f fd) (misi : mg "isinstance" = none) (mVE : mg "ValueError" = none) (m1 : mg "NoNotes" = some (.ref cN)) (m2 : mg "NoRow" = some (.ref cR)) (m3 : mg "NoPrices" = some (.ref cP)) (m4 : mg "NoSlips" = some (.ref cS)) (m5 : mg "NoLine" = some (.ref cL)) (m6 : mg "NoName" = some (.ref cM)) (m7 : mg "TwiceNamed" = some (.ref cT)) (m8 : mg "TooMany" = some (.ref cO)) (X : Kx K CV cN cR cP cS cL cM cT cO) : FnOk P w K mg base CX0 1 f fd ["found"] (spKO cN) := by
  refine F.ok scKO (fun vs H Q E h => ?_) (fun cdv A outer s H vs Q E hr h => ?_)
  · obtain ⟨ea, rfl, _⟩ := h
    rfl
  · obtain ⟨ea, rfl, he, q⟩ := h
    refine ⟨_, pss_cons (ps_if (pt_val (pe_callB (call_isxT (K := K) rfl) (by rfl) misi boot_isinstance (pa_cons (pv 0) (pa_cons (pe_tup (pa_cons (pe_glob (v := .ref cL) (by rfl) m5 rfl) (pa_cons (pe_glob (v := .ref cM) (by rfl) m6 rfl) (pa_cons (pe_glob (v := .ref cP) (by rfl) m3 rfl) (pa_cons (pe_glob (v := .ref cR) (by rfl) m2 rfl) (pa_cons (pe_glob (v := .ref cS) (by rfl) m4 rfl) (pa_cons (pe_glob (v := .ref cO) (by rfl) m8 rfl) (pa_cons (pe_glob (v := .ref cT) (by rfl) m7 rfl) pa_nil)))))))) pa_nil)))) (pss_one (ps_ret pe_str)) pss_nil)
      (pss_cons (ps_if (PW.pt (pw_and (pt_val (pe_callB (call_isx (K := K) rfl) (by rfl) misi boot_isinstance (pa_cons (pv 0) (pa_cons (pe_glob (v := .ref cN) (by rfl) m1 rfl) pa_nil)))) (pw_and1 (pt_val (pe_callB (call_isx (K := K) rfl) (by rfl) misi boot_isinstance (pa_cons (pv 0) (pa_cons (pe_bltn (v := .ty "ValueError") (by rfl) mVE boot_VE rfl) pa_nil))))))) (pss_one (ps_ret pe_str)) pss_nil)
      (pss_one (ps_ret pe_str))), ?_⟩
    refine ⟨_, rfl, few (by show 7 ≤ _; omega), fun t ht => ?_⟩
    have T := same_upd (o := .tup [V.ref cL, .ref cM, .ref cP, .ref cR, .ref cS, .ref cO, .ref cT]) ht
    refine ⟨ea, cN, false, t, [cL, cM, cP, cR, cS, cO, cT], rfl, upd_same, X.oth, T _ _ he, X.kx, _, rfl, iteF ?_⟩
    exact ⟨_, rfl, ea, cN, true, ⟨cN, .inl ⟨rfl, X.own⟩⟩, T _ _ he, X.kx, _, rfl, iteT ⟨_, rfl, ea, cN, true, ⟨cN, .inr ⟨_, rfl, X.val⟩⟩, T _ _ he, X.kx, _, rfl, iteT (q _ T)⟩⟩
def spAsk (K : PySem.W.Frag) : Sp := fun vs H Q _ => ∃ (p t : Addr) (es : List V) (m : Nat) (ns : List (Addr × NoteY)), vs = [.ref p, .int ((m : Nat) : Int), .ref t] ∧ SqT K H p es ∧ (∀ e ∈ es, Ent e) ∧ es.length ≤ 10000 ∧ 1 ≤ m ∧ m ≤ 30 ∧ SqT K H t (ns.map fun y => V.ref y.1) ∧ (∀ y ∈ ns, NoteAtZ K H y.1 y.2) ∧
  (∀ s, obAll es m (ns.map fun y => toldZ y.2) = some s → ∀ (H' : Hp) (x r : Addr) (as : List Addr), Same H H' → H' x = some (.tup [.str (Str.ofString "told"), .ref r]) → H' r = some (.tup (as.map V.ref)) → as.length = s.2.length → ColsZ H' as s.2 → Q (.ref x) H') ∧ (obAll es m (ns.map fun y => toldZ y.2) = none → ∀ (H' : Hp) (x : Addr), Same H H' → H' x = some (.tup [.str (Str.ofString "refused"), .non]) → Q (.ref x) H')
theorem scAsk : FnScope ["entries", "many", "notes", "caught", "found", "e"] ["entries", "many", "notes"] (defScope sAsk) := ⟨rfl, rfl, rfl, by decide +kernel, rfl, by decide +kernel, by decide +kernel⟩
theorem ok_ask {f gR gC gB gK CV cN cR cP cS cL cM cT cO : Addr} {fd dR dC dB dK : FuncData} (F : Fun K "_law_asked" "_law_asked" sAsk f fd) (DR : Dfn K mg "readings_of" sRdf gR dR ["column"]) (DC : Dfn K mg "column_back" sCB gC dC ["entry", "many", "readings"]) (DB : Dfn K mg "collation_back" sOB gB dB ["entries", "many", "notes"]) (DK : Dfn K mg "_law_kind_of" sKO gK dK ["found"]) (mlen : mg "len" = none) (mtup : mg "tuple" = none) (menum : mg "enumerate" = none) (misi : mg "isinstance" = none) (mVE : mg "ValueError" = none)
    (m0 : mg "VellumError" = some (.ref CV)) (m1 : mg "NoNotes" = some (.ref cN)) (m2 : mg "NoRow" = some (.ref cR)) (m3 : mg "NoPrices" = some (.ref cP)) (m4 : mg "NoSlips" = some (.ref cS)) (m5 : mg "NoLine" = some (.ref cL)) (m6 : mg "NoName" = some (.ref cM)) (m7 : mg "TwiceNamed" = some (.ref cT)) (m8 : mg "TooMany" = some (.ref cO)) (X : Kx K CV cN cR cP cS cL cM cT cO) : FnOk P w K mg base CX0 4 f fd ["entries", "many", "notes"] (spAsk K) := by
  have GB : FnOk P w K mg base (CXv P w) 3 gB dB ["entries", "many", "notes"] (spOBX K cN) := ok_obX DB.fn DR DC m1 X.kx.vx mlen mtup menum
  have GK : FnOk P w K mg base CX0 3 gK dK ["found"] (spKO cN) := (ok_ko DK.fn misi mVE m1 m2 m3 m4 m5 m6 m7 m8 X).mono (by decide)
  refine F.ok scAsk (fun vs H Q E h => ?_) (fun cdv A outer s H vs Q E hr h => ?_)
  · obtain ⟨p, t, es, m, ns, rfl, _⟩ := h
    rfl
  · obtain ⟨p, t, es, m, ns, rfl, hp, hE, hel, m1', m30, ht, hN, q1, q2⟩ := h
    refine ⟨_, pss_cons (ps_set (i := 3) scAsk.nd rfl (Or.inl rfl) pe_non)
      (pss_cons (ps_set (i := 4) scAsk.nd rfl (Or.inl rfl) pe_non)
      (pss_cons (ps_try (i := 4) (j := 5) (D := CV) (fun _ _ z => z) ⟨rfl, rfl⟩ rfl GB hr (by rfl) DB.at_ DB.fn.kp DB.bn (pa_cons (pv 0) (pa_cons (pv 1) (pa_cons (pv 2) pa_nil))) scAsk.nd rfl rfl rfl rfl (by rfl) m0 (fun ea => (pss_one (ps_set (i := 3) scAsk.nd rfl (Or.inl rfl) (pv 5)))))
      (pss_cons (ps_if (pt_cmpR op_isN (pv 3) pe_non (nomark _)) (pss_one (ps_ret (pe_tup (pa_cons pe_str (pa_cons (pv 4) pa_nil))))) pss_nil)
      (pss_one (ps_ret (pe_tup (pa_cons (pe_call GK hr (by rfl) DK.at_ DK.fn.kp DK.bn .nil pass0 (pa_cons (pv 3) pa_nil)) (pa_cons pe_non pa_nil)))))))), ?_⟩
    have z2 : (2 : Nat) ≤ sizeLine := few (by omega)
    refine ⟨_, rfl, _, rfl, _, rfl, p, t, es, m, ns, rfl, hp, hE, hel, m1', m30, ht, hN, fun s hs H1 r as S1 h1 h2 _ h4 => ?_, fun hn H1 S1 => ⟨cN, rfl, X.hit, fun ea hea => ?_⟩⟩
    · refine ⟨_, rfl, rfl, _, rfl, iteY rfl ⟨_, rfl, z2, fun x hx => ?_⟩⟩
      have T := same_upd (o := .tup [V.str (Str.ofString "told"), .ref r]) hx
      exact q1 s hs _ x r as (S1.trans T) upd_same (T _ _ h1) h2 (h4.mono T)
    · have T1 := same_upd (o := excO ea cN) hea
      refine ⟨_, rfl, ?_⟩
      refine ⟨_, rfl, rfl, _, rfl, iteK (fun z => by cases z) ?_⟩
      refine ⟨_, rfl, ea, rfl, upd_same, fun H2 S2 => ⟨z2, fun x hx => ?_⟩⟩
      exact q2 hn _ x (((S1.trans T1).trans S2).trans (same_upd hx)) upd_same
theorem good_a : Good (Str.ofString "a") := ⟨by decide +kernel, by decide +kernel, fun c hc => by
  rw [show (Str.ofString "a").cps.toList = [97] from by decide +kernel] at hc
  rw [List.mem_singleton.mp hc]
  unfold Al
  omega⟩
theorem cut_ints (ns : List Int) (lo hi : Option Int) : ∃ ms : List Int, cutV (ns.map V.int) lo hi = ms.map V.int ∧ (∀ m ∈ ms, m ∈ ns) ∧ ms.length ≤ ns.length := by
  unfold cutV
  rw [← List.map_drop, ← List.map_take]
  refine ⟨_, rfl, fun m hm => List.mem_of_mem_drop (List.mem_of_mem_take hm), ?_⟩
  rw [List.length_take, List.length_drop]
  omega
theorem notez_eq {K : PySem.W.Frag} {H : Hp} {a b : Addr} {y z : NoteY} (h : NoteAtZ K H a y) (h' : NoteAtZ K H b z) : EqQ K H 4 (.ref a) (.ref b) (decide (toldZ y = toldZ z)) := by
  obtain ⟨h0, q, h1, h2⟩ := h
  obtain ⟨h3, q', h4, h5⟩ := h'
  refine .inr ⟨a, b, _, _, fun i => if i = 0 then decide (y.1 = z.1) else decide ((y.2.map fun z => z.2) = z.2.map fun z => z.2), rfl, rfl, .inr ⟨h1, h4⟩, fun i u v hu hv => ?_, ?_⟩
  · match i, hu, hv with
    | 0, hu, hv =>
      cases hu; cases hv
      have := EqQ.flat (K := K) (H := H) (x := .int y.1) (y := .int z.1) rfl rfl 3
      rw [show eqV (.int y.1) (.int z.1) = decide (y.1 = z.1) from by show (y.1 == z.1) = _; rw [Bool.eq_iff_iff, decide_eq_true_eq, beq_iff_eq]] at this
      exact this
    | 1, hu, hv =>
      cases hu; cases hv
      exact .inr (eqs_rdgz h2 h5 h0 h3)
    | k + 2, hu, hv => simp at hu
  · show _ = (true && ((if (0 : Nat) = 0 then decide (y.1 = z.1) else _) && ((if (1 : Nat) = 0 then _ else decide ((y.2.map fun z => z.2) = z.2.map fun z => z.2)) && true)))
    rw [if_pos rfl, if_neg (by decide), Bool.true_and, Bool.and_true, Bool.eq_iff_iff, decide_eq_true_eq, Bool.and_eq_true, decide_eq_true_eq, decide_eq_true_eq]
    exact Prod.ext_iff
theorem eqs_notez {K : PySem.W.Frag} {H : Hp} {t u : Addr} {xs ys : List (Addr × NoteY)} (ht : SqT K H t (xs.map fun y => V.ref y.1)) (hu : SqT K H u (ys.map fun y => V.ref y.1)) (hX : ∀ y ∈ xs, NoteAtZ K H y.1 y.2) (hY : ∀ y ∈ ys, NoteAtZ K H y.1 y.2) : EqS K H 4 (.ref t) (.ref u) (decide ((xs.map fun y => toldZ y.2) = ys.map fun y => toldZ y.2)) :=
  eqs_by (fun y => V.ref y.1) (fun y => toldZ y.2) (.inr ⟨ht, hu⟩) fun x hx y hy => notez_eq (hX x hx) (hY y hy)
def noteY (y : Note) : NoteY := (((y.1 : Nat) : Int), y.2.map fun z => (z.1, rdgZ z.2))
theorem noteAt_z {K : PySem.W.Frag} {H : Hp} {t : Addr} {y : Note} (h : NoteAt H t y) : NoteAtZ K H t (noteY y) := by
  obtain ⟨_, _, h3, q, h4, h5⟩ := h
  refine ⟨fun z hz => ?_, q, SqT.of h4, ?_⟩
  · obtain ⟨w, hw, rfl⟩ := List.mem_map.mp hz
    exact rdgAt_z (h3 w hw)
  · unfold noteY
    rw [List.map_map]
    exact SqT.of h5
theorem told_noteY (y : Note) : toldZ (noteY y) = noteZ (toldN y) := by
  unfold toldZ noteY noteZ toldN
  simp [List.map_map]
theorem at29 (c k : Int) : ∃ n : Nat, atI [V.int 5, .int 29] (drawD c k 2) = some (.int ((n : Nat) : Int)) ∧ 1 ≤ n ∧ n ≤ 29 := by
  have h0 := draw_lo c k (m := 2) (by decide)
  have h1 := draw_hi c k (m := 2) (by decide)
  generalize drawD c k 2 = d at h0 h1
  obtain ⟨j, rfl⟩ : ∃ j : Nat, d = (j : Int) := ⟨d.toNat, by omega⟩
  have hj : j < 2 := by omega
  match j, hj with
  | 0, _ => exact ⟨5, rfl, by decide, by decide⟩
  | 1, _ => exact ⟨29, rfl, by decide, by decide⟩
theorem pe_one {X : Cx} {j0 j1 j2 k1 k2 k3 k4 k5 : Nat} {q0 q1 q2 q3 q4 q5 q6 q7 : Pos} {z : Str} : PE X (.Tuple [.Tuple [.Constant (.int 0) j0 q0, .Tuple [.Tuple [.Constant (.str z) j1 q1, .Tuple [.Constant (.int 1) j2 q2] k1 q3] k2 q4] k3 q5] k4 q6] k5 q7) (tTup (tCons (tTup (tCons (tC (.int 0)) (tCons (tTup (tCons (tTup (tCons (tC (.str z)) (tCons (tTup (tCons (tC (.int 1)) tNil)) tNil))) tNil)) tNil))) tNil)) := by
  have p1 : PE X (.Tuple [.Constant (.int 1) j2 q2] k1 q3) (tTup (tCons (tC (.int 1)) tNil)) := pe_tup (pa_cons pe_int pa_nil)
  have p2 : PE X (.Tuple [.Constant (.str z) j1 q1, .Tuple [.Constant (.int 1) j2 q2] k1 q3] k2 q4) (tTup (tCons (tC (.str z)) (tCons (tTup (tCons (tC (.int 1)) tNil)) tNil))) := pe_tup (pa_cons pe_str (pa_cons p1 pa_nil))
  have p3 : PE X (.Tuple [.Tuple [.Constant (.str z) j1 q1, .Tuple [.Constant (.int 1) j2 q2] k1 q3] k2 q4] k3 q5) (tTup (tCons (tTup (tCons (tC (.str z)) (tCons (tTup (tCons (tC (.int 1)) tNil)) tNil))) tNil)) := pe_tup (pa_cons p2 pa_nil)
  have p4 : PE X (.Tuple [.Constant (.int 0) j0 q0, .Tuple [.Tuple [.Constant (.str z) j1 q1, .Tuple [.Constant (.int 1) j2 q2] k1 q3] k2 q4] k3 q5] k4 q6) (tTup (tCons (tC (.int 0)) (tCons (tTup (tCons (tTup (tCons (tC (.str z)) (tCons (tTup (tCons (tC (.int 1)) tNil)) tNil))) tNil)) tNil))) := pe_tup (pa_cons pe_int (pa_cons p3 pa_nil))
  exact pe_tup (pa_cons p4 pa_nil)
def spLaw (K : PySem.W.Frag) : Sp := fun vs H Q _ => ∃ (a : Addr) (ns : List Int), vs = [.ref a] ∧ SqL K H a (ns.map V.int) ∧ ns.length ≤ 63 ∧ (∀ m ∈ ns, Builtin.Int.intBits m ≤ 1048576) ∧ ∀ H', Q (.bl true) H'
theorem scLaw : FnScope ["script", "base", "pool", "many", "columns", "cell", "entries", "notes", "bad", "found", "one"] ["script"] (defScope sLaw) := ⟨rfl, rfl, rfl, by decide +kernel, rfl, by decide +kernel, by decide +kernel⟩
theorem nd_column : (["column"] : List Str).Nodup := by decide +kernel
theorem ok_law {f gR gCB gOB gC gD gW gP gCl gS gRd gNt gOr gY gSp gK gA CV cN cR cP cS cL cM cT cO : Addr} {fd dR dCB dOB dC dD dW dP dCl dS dRd dNt dOr dY dSp dK dA : FuncData} (F : Fun K "law" "law" sLaw f fd)
    (DR : Dfn K mg "readings_of" sRdf gR dR ["column"]) (DCB : Dfn K mg "column_back" sCB gCB dCB ["entry", "many", "readings"]) (DOB : Dfn K mg "collation_back" sOB gOB dOB ["entries", "many", "notes"]) (DC : Dfn K mg "_law_cell_at" sCell gC dC ["script", "k"]) (DD : Dfn K mg "_law_draw" sDraw gD dD ["cell", "k", "many"]) (DW : Dfn K mg "_law_word_by" sWordBy gW dW ["cell", "k"]) (DP : Dfn K mg "_law_pool" sPool gP dP ["cell"]) (DCl : Dfn K mg "_law_column_by" sCol gCl dCl ["cell", "pool", "many"]) (DS : Dfn K mg "_law_same" sSame gS dS ["found", "due"])
    (DRd : Dfn K mg "_law_readings_of" sRd gRd dRd ["column"]) (DNt : Dfn K mg "_law_notes_of" sNts gNt dNt ["columns"]) (DOr : Dfn K mg "_law_other_rows" sOR gOr dOr ["rows", "way", "many"]) (DY : Dfn K mg "_law_other_readings" sORd gY dY ["base", "readings", "way", "at", "many"]) (DSp : Dfn K mg "_law_spoilt" sSpo gSp dSp ["columns", "notes", "cell"]) (DK : Dfn K mg "_law_kind_of" sKO gK dK ["found"]) (DA : Dfn K mg "_law_asked" sAsk gA dA ["entries", "many", "notes"])
    (mlen : mg "len" = none) (mrange : mg "range" = none) (misi : mg "isinstance" = none) (mtup : mg "tuple" = none) (mstr : mg "str" = none) (mint : mg "int" = none) (mbool : mg "bool" = none) (mall : mg "all" = none) (menum : mg "enumerate" = none) (mrev : mg "reversed" = none) (msort : mg "sorted" = none) (mVE : mg "ValueError" = none)
    (m0 : mg "VellumError" = some (.ref CV)) (m2 : mg "NoRow" = some (.ref cR)) (m3 : mg "NoPrices" = some (.ref cP)) (m4 : mg "NoSlips" = some (.ref cS)) (m1 : mg "NoNotes" = some (.ref cN)) (m5 : mg "NoLine" = some (.ref cL)) (m6 : mg "NoName" = some (.ref cM)) (m7 : mg "TwiceNamed" = some (.ref cT)) (m8 : mg "TooMany" = some (.ref cO)) (kk : Kinds K) (X : Kx K CV cN cR cP cS cL cM cT cO) :
    FnOk P w K mg base CX0 7 f fd ["script"] (spLaw K) := by
  have GS : FnOk P w K mg base CX0 6 gS dS ["found", "due"] (spSame 5) := ok_same DS.fn DS misi mtup mstr mint mbool mlen mrange mall kk 5
  have GNt : FnOk P w K mg base CX0 6 gNt dNt ["columns"] (spNts K) := (ok_nts DNt.fn DRd mlen mrange mtup).mono (by decide)
  have GC : FnOk P w K mg base CX0 6 gC dC ["script", "k"] (spCell K) := (ok_cell DC.fn mlen).mono (by decide)
  have GD : FnOk P w K mg base CX0 6 gD dD ["cell", "k", "many"] spDraw := (ok_draw DD.fn).mono (by decide)
  have GP : FnOk P w K mg base CX0 6 gP dP ["cell"] spPool := (ok_pool DP.fn DD DW mrange mlen).mono (by decide)
  have GCl : FnOk P w K mg base CX0 6 gCl dCl ["cell", "pool", "many"] spCol := (ok_col DCl.fn DD mrange mlen mtup).mono (by decide)
  have GSp : FnOk P w K mg base CX0 6 gSp dSp ["columns", "notes", "cell"] (spSpo K) := (ok_spo DSp.fn DD DY DOr mlen mtup mrev msort).mono (by decide)
  have GA : FnOk P w K mg base CX0 6 gA dA ["entries", "many", "notes"] (spAsk K) := (ok_ask DA.fn DR DCB DOB DK mlen mtup menum misi mVE m0 m1 m2 m3 m4 m5 m6 m7 m8 X).mono (by decide)
  refine F.ok scLaw (fun vs H Q E h => ?_) (fun cdv A outer s H vs Q E hr h => ?_)
  · obtain ⟨a, ns, rfl, _⟩ := h
    rfl
  · obtain ⟨a, ns, rfl, hS, hn, hb, q⟩ := h
    refine ⟨_, pss_cons (ps_set (i := 1) scLaw.nd rfl (Or.inl rfl) (pe_call GC hr (by rfl) DC.at_ DC.fn.kp DC.bn .nil pass0 (pa_cons (pv 0) (pa_cons pe_int pa_nil))))
      (pss_cons (ps_set (i := 2) scLaw.nd rfl (Or.inl rfl) (pe_call GP hr (by rfl) DP.at_ DP.fn.kp DP.bn .nil pass0 (pa_cons (pv 1) pa_nil)))
      (pss_cons (ps_set (i := 3) scLaw.nd rfl (Or.inl rfl) (pe_op op_add pe_int (pe_call GD hr (by rfl) DD.at_ DD.fn.kp DD.bn .nil pass0 (pa_cons (pv 1) (pa_cons pe_int (pa_cons (pe_ix ix_list (pe_lst (pa_cons pe_int (pa_cons pe_int pa_nil))) (pe_call GD hr (by rfl) DD.at_ DD.fn.kp DD.bn .nil pass0 (pa_cons (pv 1) (pa_cons pe_int (pa_cons pe_int pa_nil)))) (fun _ _ => rfl)) pa_nil))))))
      (pss_cons (ps_set (i := 4) scLaw.nd rfl (Or.inl rfl) (pe_lst (pa_cons (pe_op op_catH (pe_tup (pa_cons pe_non pa_nil)) (pe_op op_mulT (pe_tup (pa_cons pe_str pa_nil)) (pe_op op_sub (pv 3) pe_int))) pa_nil)))
      (pss_cons (ps_for PassesOwn.never rfl (pi_list (pe_slice sl_lst (pv 0) (po_some pe_int) (po_some pe_int))) (pg_name (i := 5) scLaw.nd rfl (Or.inl rfl))
      (pss_one (ps_expr (pe_bm PySem.F.plainAttrs_list PySem.F.slot_list_append PySem.F.type_list_append mt_append (pv 4) (pa_cons (pe_call GCl hr (by rfl) DCl.at_ DCl.fn.kp DCl.bn .nil pass0 (pa_cons (pv 5) (pa_cons (pv 2) (pa_cons (pv 3) pa_nil)))) pa_nil)))))
      (pss_cons (ps_set (i := 4) scLaw.nd rfl (Or.inl rfl) (pe_callTy call_tuple_of (by rfl) mtup boot_tuple (pa_cons (pe_op op_cat (pe_slice sl_lst (pv 4) (po_some pe_int) po_none) (pe_slice sl_lst (pv 4) po_none (po_some pe_int))) pa_nil)))
      (pss_cons (ps_set (i := 6) scLaw.nd rfl (Or.inl rfl) (pe_callTy call_tuple_of (by rfl) mtup boot_tuple (pa_cons (pe_comp (Nc := ["column"]) (mp := [none]) rfl (CompOk.of (by rfl)) (pi_tup (pv 4)) (fun cl C s H fp => ⟨pg_name (i := 0) nd_column rfl (Or.inl rfl), pts_nil, (pe_ix (ix_tupK (K := K) rfl) (pv 0) pe_int (fun _ _ => rfl))⟩)) pa_nil)))
      (pss_cons (ps_set (i := 7) scLaw.nd rfl (Or.inl rfl) (pe_call GNt hr (by rfl) DNt.at_ DNt.fn.kp DNt.bn .nil pass0 (pa_cons (pv 4) pa_nil)))
      (pss_cons (ps_for PassesOwn.never rfl (pi_list (pe_op op_cat (pe_lst (pa_cons (pv 1) pa_nil)) (pe_slice sl_lst (pv 0) (po_some pe_int) (po_some pe_int)))) (pg_name (i := 5) scLaw.nd rfl (Or.inl rfl))
      (pss_cons (ps_set (i := 8) scLaw.nd rfl (Or.inl rfl) (pe_call GSp hr (by rfl) DSp.at_ DSp.fn.kp DSp.bn .nil pass0 (pa_cons (pv 4) (pa_cons (pv 7) (pa_cons (pv 5) pa_nil)))))
      (pss_cons (ps_mid (ps_set (i := 9) scLaw.nd rfl (Or.inl rfl) (pe_call GA hr (by rfl) DA.at_ DA.fn.kp DA.bn .nil pass0 (pa_cons (pv 6) (pa_cons (pv 3) (pa_cons (pv 8) pa_nil))))))
      (pss_cons (ps_mid (ps_if (PW.pt (pw_and (pt_cmpR (op_neS hr.units) (pv 8) (pv 7) (nomark _)) (pw_and1 (pt_cmpR (op_neS hr.units) (pv 9) (pe_tup (pa_cons pe_str (pa_cons pe_non pa_nil))) (nomark _))))) (pss_one (ps_ret pe_bl)) pss_nil))
      (pss_cons (ps_set (i := 9) scLaw.nd rfl (Or.inl rfl) (pe_call GA hr (by rfl) DA.at_ DA.fn.kp DA.bn .nil pass0 (pa_cons (pv 6) (pa_cons (pv 3) (pa_cons (pv 7) pa_nil)))))
      (pss_one (ps_if (PW.pt (pw_or (pt_cmpR op_ne (pe_ix ix_tup (pv 9) pe_int (fun _ _ => rfl)) pe_str (nomark _)) (pw_or1 (pt_not (pt_val (pe_call GS hr (by rfl) DS.at_ DS.fn.kp DS.bn .nil pass0 (pa_cons (pe_ix ix_tup (pv 9) pe_int (fun _ _ => rfl)) (pa_cons (pv 4) pa_nil)))))))) (pss_one (ps_ret pe_bl)) pss_nil)))))))
      (pss_cons (ps_set (i := 10) scLaw.nd rfl (Or.inl rfl) pe_one)
      (pss_cons (ps_if (pt_cmpR (op_neS hr.units) (pe_call GA hr (by rfl) DA.at_ DA.fn.kp DA.bn .nil pass0 (pa_cons (pe_tup pa_nil) (pa_cons (pv 3) (pa_cons (pv 10) pa_nil)))) (pe_tup (pa_cons pe_str (pa_cons pe_non pa_nil))) (nomark _)) (pss_one (ps_ret pe_bl)) pss_nil)
      (pss_one (ps_ret (pe_cmpR (op_eqS hr.units) (pe_call GA hr (by rfl) DA.at_ DA.fn.kp DA.bn .nil pass0 (pa_cons (pe_tup (pa_cons pe_non pa_nil)) (pa_cons pe_int (pa_cons (pv 10) pa_nil)))) (pe_tup (pa_cons pe_str (pa_cons pe_non pa_nil))) (nomark _)))))))))))))), ?_⟩
    have z1 : (1 : Nat) ≤ sizeLine := few (by omega)
    have z2 : (2 : Nat) ≤ sizeLine := few (by omega)
    have hc := bits_cell hb 0
    refine ⟨_, rfl, a, ns, 0, rfl, hS, by decide, ?_⟩
    refine ⟨_, rfl, _, rfl, hc, fun pl ws hpl hwl hwg => ?_⟩
    have S1 := same_upd (o := .lst (ws.map V.str)) hpl
    have hpool : upd H pl (.lst (ws.map V.str)) pl = some (.lst (ws.map V.str)) := upd_same
    generalize upd H pl (.lst (ws.map V.str)) = H1 at S1 hpool
    obtain ⟨n, en, n1, n2⟩ := at29 (cellD ns 0) 72
    refine ⟨_, rfl, z2, fun l hl => ?_⟩
    have T2 := same_upd (o := .lst [V.int 5, .int 29]) hl
    refine ⟨_, rfl, _, _, _, rfl, hc, (by show (0 : Int) ≤ 72; decide), (by show (72 : Int) ≤ 100000; decide), (by show (0 : Int) < 2; decide), l, _, _, _, rfl, rfl, SqL.of upd_same, en, _, _, _, rfl, hc, (by show (0 : Int) ≤ 71; decide), (by show (71 : Int) ≤ 100000; decide), (by show (0 : Int) < ((n : Nat) : Int); omega), _, _, rfl, rfl, ?_⟩
    obtain ⟨dd, ed, hd⟩ := draw_nat (cellD ns 0) 71 (m := ((n : Nat) : Int)) (by omega)
    have em : (2 : Int) + drawD (cellD ns 0) 71 ((n : Nat) : Int) = ((dd + 2 : Nat) : Int) := by rw [ed]; omega
    show gName 3 (V.int (2 + drawD (cellD ns 0) 71 ((n : Nat) : Int))) _ _ _
    rw [em]
    obtain ⟨m, hm⟩ : ∃ m : Nat, dd + 2 = m := ⟨_, rfl⟩
    rw [hm]
    have m2' : 2 ≤ m := by omega
    have m30 : m ≤ 30 := by omega
    clear em hm ed hd
    have hpool2 := T2 _ _ hpool
    have S02 := S1.trans T2
    generalize upd H1 l (.lst [V.int 5, .int 29]) = H2 at T2 hpool2 S02
    -- the first column
    refine ⟨z1, fun t3 ht3 => ⟨z1, fun t4 ht4 => ?_⟩⟩
    have T3 := same_upd (o := .tup [V.non]) ht3
    have T4 := same_upd (o := .tup [V.str (Str.ofString "a")]) ht4
    refine ⟨_, rfl, _, _, rfl, rfl, t4, _, m - 1, rfl, (show V.int (((m : Nat) : Int) - 1) = V.int (((m - 1 : Nat) : Nat) : Int) from congrArg V.int (by omega)), upd_same, by omega, fun t5 H5 S5 h5 => ?_⟩
    have S35 := (T3.trans T4).trans S5
    have h3 : H5 t3 = some (.tup [V.non]) := S5 _ _ (T4 _ _ upd_same)
    obtain ⟨col0, hcol⟩ : ∃ col0 : List V, [V.non] ++ List.replicate (m - 1) (V.str (Str.ofString "a")) = col0 := ⟨_, rfl⟩
    refine ⟨t3, t5, _, _, rfl, rfl, h3, h5, (by rw [List.length_replicate]; exact few (by show 1 + _ ≤ _; omega)), fun t6 H6 S6 h6 => ⟨z1, fun lc hlc => ?_⟩⟩
    rw [hcol] at h6
    have c0l : col0.length = m := by rw [← hcol, List.length_append, List.length_replicate]; show 1 + _ = _; omega
    have c0e : ∀ e ∈ col0, Ent e := fun e he => by
      rw [← hcol] at he
      rcases List.mem_append.mp he with he | he
      · rw [List.mem_singleton.mp he]; exact .inl rfl
      · rw [List.eq_of_mem_replicate he]; exact .inr ⟨_, good_a, rfl⟩
    have c0r : rdgsOf col0 ≠ [] := fun z => by
      have e := const_of z
      rw [c0l, ← hcol] at e
      obtain ⟨j, hj⟩ : ∃ j, m = j + 2 := ⟨m - 2, by omega⟩
      rw [hj] at e
      have e2 := congrArg (fun l => l[1]?) e
      cases e2
    have T7 := same_upd (o := .lst [V.ref t6]) hlc
    have S26 := S35.trans S6
    have S06 := S02.trans S26
    have hlH : H lc = none := S06.free hlc
    have h7l : upd H6 lc (.lst [V.ref t6]) lc = some (.lst ([(t6, col0)].map fun x => V.ref x.1)) := upd_same
    have hpool7 := T7 _ _ (S26 _ _ hpool2)
    have h7c := T7 _ _ h6
    have S07 := S06.trans T7
    generalize upd H6 lc (.lst [V.ref t6]) = H7 at T7 h7l hpool7 h7c S07
    -- the other columns
    obtain ⟨ms, ecut, hms, hml⟩ := cut_ints ns (some 1) (some 21)
    refine ⟨_, rfl, _, rfl, _, rfl, a, _, rfl, S07.seq hS, fun p8 hp8 => ?_⟩
    rw [ecut]
    have T8 := same_upd (o := .lst (ms.map V.int)) hp8
    have n8 : p8 ≠ lc := fun z => by rw [z, h7l] at hp8; cases hp8
    have npl : pl ≠ lc := fun z => by rw [z, h7l] at hpool7; have := congrArg (fun o => match o with | some (HO.lst xs) => xs.length | _ => 0) hpool7; rw [show (match some (HO.lst (ws.map V.str)) with | some (HO.lst xs) => xs.length | _ => 0) = ws.length from List.length_map ..] at this; have : (1 : Nat) = ws.length := this; omega
    refine ⟨p8, rfl, ⟨_, SqL.of upd_same⟩, for_list (K := K) (a := p8) (xs := ms.map V.int) (fun i σ H9 => ∃ (cs : List (Addr × List V)) (v5 : Option V), σ = [some (.ref a), some (.int (cellD ns 0)), some (.ref pl), some (.int ((m : Nat) : Int)), some (.ref lc), v5, none, none, none, none, none] ∧ H9 lc = some (.lst (cs.map fun x => V.ref x.1)) ∧ ColsAt H9 cs m ∧ (t6, col0) ∈ cs ∧ cs.length = i + 1 ∧ H9 pl = some (.lst (ws.map V.str)) ∧ H9 p8 = some (.lst (ms.map V.int)) ∧ Same H H9)
      ⟨[(t6, col0)], none, rfl, T8 _ _ h7l, (fun x hx => by rw [List.mem_singleton.mp hx]; exact ⟨T8 _ _ h7c, c0l, c0e⟩), List.mem_cons_self, rfl, T8 _ _ hpool7, upd_same, S07.trans T8⟩ (fun i σ H9 _ ⟨_, _, _, _, _, _, _, _, h, _⟩ => SqL.of h) ?_ ?_⟩
    · rintro i y σ H9 hi ⟨cs, v5, rfl, h9l, hC9, hmem, hcl, hpool9, hp9, S9⟩
      have hil : i < ms.length := by have := (List.getElem?_eq_some_iff.mp hi).1; rwa [List.length_map] at this
      rw [List.getElem?_map] at hi
      obtain ⟨c, hci, rfl⟩ := Option.map_eq_some_iff.mp hi
      refine ⟨_, rfl, .inl ⟨rfl, _, SqL.of h9l⟩, _, rfl, _, rfl, _, rfl, c, pl, m, ws, rfl, hb c (hms c (List.mem_of_getElem? hci)), hpool9, by omega, hwg, by omega, by omega, fun p es hp hel hE => ?_⟩
      have Tp := same_upd (o := .tup es) hp
      have k9 := Tp _ _ h9l
      refine ⟨lc, _, _, rfl, rfl, k9, (by rw [List.length_map]; exact fewer (by omega)), ?_⟩
      have keep : ∀ {b : Addr} {o : HO}, b ≠ lc → H9 b = some o → upd (upd H9 p (.tup es)) lc (.lst ((cs.map fun x => V.ref x.1) ++ [.ref p])) b = some o := fun {b o} hb h => by rw [upd_ne hb]; exact Tp _ _ h
      have nt : ∀ {b : Addr} {xs : List V}, upd H9 p (.tup es) b = some (.tup xs) → b ≠ lc := fun {b xs} h => ne_of h k9 (by intro z; cases z)
      refine ⟨cs ++ [(p, es)], _, rfl, by rw [upd_same, List.map_append]; rfl, fun x hx => ?_, List.mem_append_left _ hmem, by rw [List.length_append, hcl]; rfl, keep npl hpool9, keep n8 hp9, same_to (S9.trans Tp) hlH⟩
      rcases List.mem_append.mp hx with hx | hx
      · obtain ⟨x1, x2, x3⟩ := hC9 x hx
        exact ⟨keep (nt (Tp _ _ x1)) x1, x2, x3⟩
      · rw [List.mem_singleton.mp hx]
        exact ⟨by rw [upd_ne (nt upd_same)]; exact upd_same, hel, hE⟩
    rintro σ H9 ⟨cs, v5, rfl, h9l, hC9, hmem, hcl, _, _, S9⟩
    rw [List.length_map] at hcl
    have hgl : (cs.map fun x => V.ref x.1).length = cs.length := List.length_map ..
    refine ⟨_, rfl, _, rfl, ?_⟩
    try unfold tNoPart
    refine ⟨lc, _, rfl, SqL.of h9l, fun q1 hq1 => ?_⟩
    rw [show cutV (cs.map fun x => V.ref x.1) (some 1) none = _ from cutTail (fun x : Addr × List V => V.ref x.1) cs 1]
    have Q1 := same_upd (o := .lst ((cs.drop 1).map fun x => V.ref x.1)) hq1
    refine ⟨_, rfl, _, rfl, lc, _, rfl, SqL.of (Q1 _ _ h9l), fun q2 hq2 => ?_⟩
    rw [show cutV (cs.map fun x => V.ref x.1) none (some 1) = _ from cutTake (fun x : Addr × List V => V.ref x.1) cs 1]
    have Q2 := same_upd (o := .lst ((cs.take 1).map fun x => V.ref x.1)) hq2
    refine ⟨q1, q2, _, _, rfl, rfl, Q2 _ _ upd_same, upd_same, (by rw [List.length_map, List.length_map, List.length_drop, List.length_take]; exact few (by omega)), fun q3 hq3 => ?_⟩
    rw [← List.map_append]
    obtain ⟨cs', hcs'⟩ : ∃ cs' : List (Addr × List V), cs.drop 1 ++ cs.take 1 = cs' := ⟨_, rfl⟩
    rw [hcs']
    have Q3 := same_upd (o := .lst (cs'.map fun x => V.ref x.1)) hq3
    refine ⟨q3, _, rfl, .inl ⟨SqL.of upd_same, fun pc hpc => ?_⟩⟩
    have Q4 := same_upd (o := .tup (cs'.map fun x => V.ref x.1)) hpc
    have S910 := ((Q1.trans Q2).trans Q3).trans Q4
    have hsub : ∀ x, x ∈ cs' ↔ x ∈ cs := fun x => by
      rw [← hcs', List.mem_append, or_comm, ← List.mem_append, List.take_append_drop]
    have hC10 := fun x hx => (hC9.mono S910) x ((hsub x).mp hx)
    have hc'l : cs'.length = ms.length + 1 := by rw [← hcs', List.length_append, List.length_drop, List.length_take]; omega
    have h10 := upd_same (H := upd (upd (upd H9 q1 (.lst ((cs.drop 1).map fun x => V.ref x.1))) q2 (.lst ((cs.take 1).map fun x => V.ref x.1))) q3 (.lst (cs'.map fun x => V.ref x.1))) (a := pc) (o := .tup (cs'.map fun x => V.ref x.1))
    have hmem' := (hsub _).mpr hmem
    have S010 := S9.trans S910
    generalize upd (upd (upd (upd H9 q1 (.lst ((cs.drop 1).map fun x => V.ref x.1))) q2 (.lst ((cs.take 1).map fun x => V.ref x.1))) q3 (.lst (cs'.map fun x => V.ref x.1))) pc (.tup (cs'.map fun x => V.ref x.1)) = H10 at S910 hC10 h10 S010
    have hC10 : ColsAt H10 cs' m := hC10
    -- the entries
    refine ⟨_, rfl, pc, rfl, ⟨_, SqT.of h10⟩, comp_map (as := cs') (v := fun x => V.ref x.1) (fun x => x.2.getD 0 .non) (src_tup (SqT.of h10)) (few (by omega)) (fun x hx kc hk => ?_) (fun D hD => ?_)⟩
    · obtain ⟨c1, c2, c3⟩ := hC10 x hx
      exact ⟨_, rfl, x.1, _, _, _, rfl, rfl, SqT.of c1, atI_nat (j := 0) (by rw [List.getD_eq_getElem?_getD, List.getElem?_eq_getElem (by omega)]; rfl), hk⟩
    have D1 := same_upd (o := .lst (cs'.map fun x => x.2.getD 0 .non)) hD
    refine ⟨D, _, rfl, .inl ⟨SqL.of upd_same, fun pe hpe => ?_⟩⟩
    have D2 := same_upd (o := .tup (cs'.map fun x => x.2.getD 0 .non)) hpe
    have h11 : upd (upd H10 D (.lst (cs'.map fun x => x.2.getD 0 .non))) pe (.tup (cs'.map fun x => x.2.getD 0 .non)) pe = some (.tup (cs'.map fun x => x.2.getD 0 .non)) := upd_same
    have S1011 := D1.trans D2
    generalize upd (upd H10 D (.lst (cs'.map fun x => x.2.getD 0 .non))) pe (.tup (cs'.map fun x => x.2.getD 0 .non)) = H11 at S1011 h11
    have hEnt : ∀ e ∈ cs'.map (fun x => x.2.getD 0 .non), Ent e := fun e he => by
      obtain ⟨x, hx, rfl⟩ := List.mem_map.mp he
      obtain ⟨c1, c2, c3⟩ := hC10 x hx
      rw [List.getD_eq_getElem?_getD, List.getElem?_eq_getElem (by omega)]
      exact c3 _ (List.getElem_mem _)
    have hesl : (cs'.map fun x => x.2.getD 0 .non).length = cs'.length := List.length_map ..
    -- the notes
    refine ⟨_, rfl, pc, cs', m, rfl, SqT.of (S1011 _ _ h10), hC10.mono S1011, by omega, m30, by omega, fun H12 r2 ns2 S12 h2 hN2 hto2 => ?_⟩
    have S1012 := S1011.trans S12
    obtain ⟨NS, hNS⟩ : ∃ NS : List (Addr × NoteY), ns2.map (fun y => (y.1, noteY y.2)) = NS := ⟨_, rfl⟩
    have k1 : SqT K H12 r2 (NS.map fun y => V.ref y.1) := by rw [← hNS, List.map_map]; exact SqT.of h2
    have k2 : ∀ y ∈ NS, NoteAtZ K H12 y.1 y.2 := fun y hy => by
      rw [← hNS] at hy
      obtain ⟨w, hw, rfl⟩ := List.mem_map.mp hy
      exact noteAt_z (hN2 w hw)
    have k3 : (NS.map fun y => toldZ y.2) = (notesTo (pureC cs') cs'.length).map noteZ := by
      rw [← hNS, List.map_map, ← hto2, List.map_map]
      exact List.map_congr_left fun y _ => told_noteY y.2
    have ees : (cs'.map fun x => x.2.getD 0 .non) = (pureC cs').map fun c => c.getD 0 .non := by unfold pureC; rw [List.map_map]; rfl
    have epl : (pureC cs').length = cs'.length := by unfold pureC; rw [List.length_map]
    obtain ⟨az, hob⟩ := ob_all (cs := pureC cs') (m := m) (by omega) fun c hc => by
      obtain ⟨x, hx, rfl⟩ := List.mem_map.mp hc
      exact (hC10 x hx).2.1
    rw [epl, ← ees, ← k3] at hob
    have hnl : ns2.length ≤ cs'.length := by
      have e1 := congrArg List.length hto2
      rw [List.length_map] at e1
      have e2 := notesTo_len (pureC cs') cs'.length
      omega
    have k4 : NS.length = ns2.length := by rw [← hNS, List.length_map]
    have k5 : ∀ y ∈ NS, 0 ≤ y.2.1 ∧ y.2.1 < ((cs'.length : Nat) : Int) ∧ y.2.2 ≠ [] ∧ y.2.2.length ≤ 30 ∧ ∀ z ∈ y.2.2, z.2.2.length ≤ 30 := fun y hy => by
      rw [← hNS] at hy
      obtain ⟨w, hw, rfl⟩ := List.mem_map.mp hy
      obtain ⟨w1, w2, w3, _⟩ := hN2 w hw
      have hin : toldN w.2 ∈ notesTo (pureC cs') cs'.length := by rw [← hto2]; exact List.mem_map.mpr ⟨w, hw, rfl⟩
      obtain ⟨g1, g2, g3⟩ := notes_mem hin
      have g1 : w.2.1 < cs'.length := g1
      refine ⟨by show (0 : Int) ≤ ((w.2.1 : Nat) : Int); omega, by show ((w.2.1 : Nat) : Int) < _; omega, fun z => g3 ?_, by show (w.2.2.map _).length ≤ 30; rw [List.length_map]; exact w2, fun z hz => ?_⟩
      · have z : w.2.2.map (fun z => (z.1, rdgZ z.2)) = [] := z
        show w.2.2.map (fun z => z.2) = []
        rw [List.map_eq_nil_iff.mp z]
        rfl
      · obtain ⟨u, hu, rfl⟩ := List.mem_map.mp hz
        show (u.2.2.map _).length ≤ 30
        rw [List.length_map]
        exact (w3 u hu).1.2.1
    have k6 : NS ≠ [] := fun z => by
      obtain ⟨i, hi⟩ := List.mem_iff_getElem?.mp hmem'
      have hil : i < cs'.length := (List.getElem?_eq_some_iff.mp hi).1
      have egd : (pureC cs').getD i [] = col0 := by unfold pureC; rw [List.getD_eq_getElem?_getD, List.getElem?_map, hi]; rfl
      have := notes_all (cs := pureC cs') hil (by rw [egd]; exact c0r)
      rw [← hto2] at this
      have e2 : ns2 = [] := List.length_eq_zero_iff.mp (by rw [← k4, z]; rfl)
      rw [e2] at this
      cases this
    have h12e := S12 _ _ h11
    have hC12 := hC10.mono S1012
    have h12c := S1012 _ _ h10
    have S012 := S010.trans S1012
    clear hN2 hto2 hNS h2 hmem hmem' hsub hC9 h9l
    -- one after another
    obtain ⟨ms2, ecut2, hms2, hml2⟩ := cut_ints ns (some 21) (some 61)
    refine ⟨_, rfl, z1, fun l1 hl1 => ?_⟩
    have L1 := same_upd (o := .lst [V.int (cellD ns 0)]) hl1
    refine ⟨_, rfl, _, rfl, _, rfl, a, _, rfl, (S012.trans L1).seq hS, fun l2 hl2 => ?_⟩
    rw [ecut2]
    have L2' := same_upd (o := .lst (ms2.map V.int)) hl2
    refine ⟨l1, l2, _, _, rfl, rfl, L2' _ _ upd_same, upd_same, (by rw [List.length_map]; exact few (by show 1 + _ ≤ _; omega)), fun l3 hl3 => ?_⟩
    have L3' := same_upd (o := .lst ([V.int (cellD ns 0)] ++ ms2.map V.int)) hl3
    have S1213 := (L1.trans L2').trans L3'
    have h13 := upd_same (H := upd (upd H12 l1 (.lst [V.int (cellD ns 0)])) l2 (.lst (ms2.map V.int))) (a := l3) (o := .lst ([V.int (cellD ns 0)] ++ ms2.map V.int))
    generalize upd (upd (upd H12 l1 (.lst [V.int (cellD ns 0)])) l2 (.lst (ms2.map V.int))) l3 (.lst ([V.int (cellD ns 0)] ++ ms2.map V.int)) = H13 at S1213 h13
    have h13 : H13 l3 = some (.lst ((cellD ns 0 :: ms2).map V.int)) := h13
    have hbit : ∀ c ∈ cellD ns 0 :: ms2, Builtin.Int.intBits c ≤ 1048576 := fun c hcm => by
      rcases List.mem_cons.mp hcm with rfl | hcm
      · exact hc
      · exact hb c (hms2 c hcm)
    have refd : ∀ {H' : Hp} {x t : Addr}, H' x = some (.tup [.str (Str.ofString "refused"), .non]) → H' t = none → EqS K (upd H' t (.tup [.str (Str.ofString "refused"), .non])) 0 (.ref x) (.ref t) true := fun {H' x t} hx ht => EqS.same (.inr ⟨SqT.of ((same_upd ht) _ _ hx), SqT.of upd_same⟩) rfl
    refine ⟨l3, rfl, ⟨_, SqL.of h13⟩, for_list (K := K) (a := l3) (xs := (cellD ns 0 :: ms2).map V.int) (fun i σ H' => ∃ (v5 v8 v9 : Option V), σ = [some (.ref a), some (.int (cellD ns 0)), some (.ref pl), some (.int ((m : Nat) : Int)), some (.ref pc), v5, some (.ref pe), some (.ref r2), v8, v9, none] ∧ Same H13 H') ⟨_, none, none, rfl, Same.refl _⟩ (fun i σ H' _ ⟨_, _, _, _, S⟩ => SqL.of (S _ _ h13)) ?_ ?_⟩
    · rintro i y σ H14 hi ⟨v5, v8, v9, rfl, S14⟩
      rw [List.getElem?_map] at hi
      obtain ⟨c, hci, rfl⟩ := Option.map_eq_some_iff.mp hi
      have R14 := S1213.trans S14
      refine ⟨_, rfl, _, rfl, _, rfl, pc, r2, cs', m, NS, c, rfl, hbit c (List.mem_of_getElem? hci), SqT.of (R14 _ _ h12c), hC12.mono R14, (fun z => by rw [z] at hc'l; cases hc'l), by omega, by omega, m30, sameT R14 k1, (fun y hy => (k2 y hy).mono R14), k5, k6, by omega, fun H15 tb bs S15 hb1 hb2 hoth => ?_⟩
      have R15 := R14.trans S15
      refine ⟨fun σ' H' => ∃ x : Addr, σ' = [some (.ref a), some (.int (cellD ns 0)), some (.ref pl), some (.int ((m : Nat) : Int)), some (.ref pc), some (.int c), some (.ref pe), some (.ref r2), some (.ref tb), some (.ref x), none] ∧ Same H15 H' ∧ ((bs.map fun y => toldZ y.2) = (NS.map fun y => toldZ y.2) ∨ H' x = some (.tup [.str (Str.ofString "refused"), .non])), ?_, ?_⟩
      · exact ⟨_, rfl, _, rfl, _, rfl, pe, tb, _, m, bs, rfl, SqT.of (R15 _ _ h12e), hEnt, by omega, by omega, m30, hb1, hb2, fun s hs H16 x r as S16 hx _ _ _ => ⟨x, rfl, S16, .inl (hoth (by rw [hob]; exact fun z => nomatch z) (by rw [hs]; exact fun z => nomatch z))⟩, fun _ H16 x S16 hx => ⟨x, rfl, S16, .inr hx⟩⟩
      rintro σ' H16 ⟨x, rfl, S16, hor⟩
      have R16 := R15.trans S16
      have S1316 := (S14.trans S15).trans S16
      refine ⟨fun σ' H' => ∃ (v8 v9 : Option V), σ' = [some (.ref a), some (.int (cellD ns 0)), some (.ref pl), some (.int ((m : Nat) : Int)), some (.ref pc), some (.int c), some (.ref pe), some (.ref r2), v8, v9, none] ∧ Same H13 H', ?_, ?_⟩
      · refine ⟨_, rfl, _, rfl, 4, _, by decide, eqs_notez (sameT S16 hb1) (sameT R16 k1) (fun y hy => (hb2 y hy).mono S16) (fun y hy => (k2 y hy).mono R16), _, rfl, ?_⟩
        by_cases hMN : (bs.map fun y => toldZ y.2) = (NS.map fun y => toldZ y.2)
        · rw [decide_eq_true hMN]
          exact iteF (iteF ⟨_, _, rfl, S1316⟩)
        · rw [decide_eq_false hMN]
          have hx := hor.resolve_left hMN
          exact iteT ⟨_, rfl, z2, fun tt htt => ⟨0, true, by decide, refd hx htt, _, rfl, iteF ⟨_, _, rfl, S1316.trans (same_upd htt)⟩⟩⟩
      rintro σ' H17 ⟨v8, v9, rfl, S17⟩
      have R17 := S1213.trans S17
      refine ⟨_, rfl, _, rfl, _, rfl, pe, r2, _, m, NS, rfl, SqT.of (R17 _ _ h12e), hEnt, by omega, by omega, m30, sameT R17 k1, (fun y hy => (k2 y hy).mono R17), fun s hs H18 x r as S18 hx hr' hal hcz => ?_, fun hnone => absurd hnone (by rw [hob]; exact fun z => nomatch z)⟩
      rw [hob] at hs
      cases hs
      have R18 := R17.trans S18
      refine ⟨_, rfl, x, _, _, _, rfl, rfl, SqT.of hx, rfl, rfl, _, rfl, iteNS rfl ?_⟩
      refine ⟨_, rfl, x, _, _, _, rfl, rfl, SqT.of hx, rfl, _, rfl, _, _, rfl, ?_, _, rfl, iteF ⟨_, _, _, rfl, S17.trans S18⟩⟩
      refine .inl (.inl (.inl (sameV_seq hr' (R18 _ _ h12c) (by rw [List.length_map, List.length_map, hal, epl]) (by rw [List.length_map]; omega) fun i u v hu hv => ?_)))
      rw [List.getElem?_map] at hu hv
      obtain ⟨ad, had, rfl⟩ := Option.map_eq_some_iff.mp hu
      obtain ⟨cl, hcl', rfl⟩ := Option.map_eq_some_iff.mp hv
      obtain ⟨c1, c2, c3⟩ := (hC12.mono R18) cl (List.mem_of_getElem? hcl')
      have ep : (pureC cs')[i]? = some cl.2 := by unfold pureC; rw [List.getElem?_map, hcl']; rfl
      refine sameV_seq (hcz i ad cl.2 had ep) c1 rfl (by omega) fun j u v hu hv => ?_
      rw [hu] at hv
      cases hv
      exact sameV_ent (c3 _ (List.mem_of_getElem? hu))
    · rintro σ H14 ⟨v5, v8, v9, rfl, S14⟩
      refine ⟨z1, fun o1 h1 => ⟨z2, fun o2 h2 => ⟨z1, fun o3 h3 => ⟨z2, fun o4 h4 => ⟨z1, fun o5 h5 => ?_⟩⟩⟩⟩⟩
      have O2 := same_upd (o := .tup [V.str (Str.ofString "a"), .ref o1]) h2
      have O3 := same_upd (o := .tup [V.ref o2]) h3
      have O4 := same_upd (o := .tup [V.int 0, .ref o3]) h4
      have O5 := same_upd (o := .tup [V.ref o4]) h5
      have g1 := O5 _ _ (O4 _ _ (O3 _ _ (O2 _ _ (upd_same (H := H14) (a := o1) (o := .tup [V.int 1])))))
      have g2 := O5 _ _ (O4 _ _ (O3 _ _ (upd_same (a := o2) (o := .tup [V.str (Str.ofString "a"), .ref o1]))))
      have g3 := O5 _ _ (O4 _ _ (upd_same (a := o3) (o := .tup [V.ref o2])))
      have g4 := O5 _ _ (upd_same (a := o4) (o := .tup [V.int 0, .ref o3]))
      have g5 := upd_same (H := upd (upd (upd (upd H14 o1 (.tup [V.int 1])) o2 (.tup [V.str (Str.ofString "a"), .ref o1])) o3 (.tup [V.ref o2])) o4 (.tup [V.int 0, .ref o3])) (a := o5) (o := .tup [V.ref o4])
      generalize upd (upd (upd (upd (upd H14 o1 (.tup [V.int 1])) o2 (.tup [V.str (Str.ofString "a"), .ref o1])) o3 (.tup [V.ref o2])) o4 (.tup [V.int 0, .ref o3])) o5 (.tup [V.ref o4]) = H15 at g1 g2 g3 g4 g5
      have hnz : ∀ {H' : Hp}, Same H15 H' → ∀ y ∈ [(o4, ((0, [(o2, (V.str (Str.ofString "a"), [1]))]) : NoteY))], NoteAtZ K H' y.1 y.2 := fun {H'} S y hy => by
        rw [List.mem_singleton.mp hy]
        refine ⟨fun z hz => ?_, o3, SqT.of (S _ _ g4), SqT.of (S _ _ g3)⟩
        rw [List.mem_singleton.mp hz]
        exact ⟨.inr ⟨_, good_a, rfl⟩, o1, SqT.of (S _ _ g2), SqT.of (S _ _ g1)⟩
      refine ⟨Nat.zero_le _, fun e0 he0 => ?_⟩
      have E0 := same_upd (o := .tup []) he0
      refine ⟨_, rfl, _, rfl, e0, o5, [], m, [(o4, (0, [(o2, (V.str (Str.ofString "a"), [1]))]))], rfl, SqT.of upd_same, (fun _ z => nomatch z), Nat.zero_le _, by omega, m30, SqT.of (E0 _ _ g5), hnz E0, fun s hs => ?_, fun _ H16 x S16 hx => ?_⟩
      · have : obAll [] m [((0 : Int), [(V.str (Str.ofString "a"), [(1 : Int)])])] = none := ob_dead (j := 0) (y := ((0 : Int), [(V.str (Str.ofString "a"), [(1 : Int)])])) (s := (-1, [])) rfl rfl (by
          unfold obStep
          rw [Option.bind_some]
          exact if_neg (fun z => absurd z.2 (Int.lt_irrefl _)))
        have hs : obAll [] m [((0 : Int), [(V.str (Str.ofString "a"), [(1 : Int)])])] = some s := hs
        rw [this] at hs
        cases hs
      refine ⟨z2, fun tt htt => ⟨0, true, by decide, refd hx htt, _, rfl, iteF ?_⟩⟩
      have S17 := (E0.trans S16).trans (same_upd (o := .tup [.str (Str.ofString "refused"), .non]) htt)
      refine ⟨z1, fun e1 he1 => ?_⟩
      have E1 := same_upd (o := .tup [V.non]) he1
      refine ⟨_, rfl, e1, o5, [V.non], 1, [(o4, (0, [(o2, (V.str (Str.ofString "a"), [1]))]))], rfl, SqT.of upd_same, (fun e he => by rw [List.mem_singleton.mp he]; exact .inl rfl), (by show 1 ≤ 10000; omega), Nat.le_refl _, by omega, SqT.of ((S17.trans E1) _ _ g5), hnz (S17.trans E1), fun s hs => ?_, fun _ H18 x S18 hx => ?_⟩
      · have e1 : colBack V.non 1 [(V.str (Str.ofString "a"), [(1 : Int)])] = none := col_dead (j := 0) (k := 0) (y := (V.str (Str.ofString "a"), [(1 : Int)])) (r := 1) (c := [V.non]) (c' := [V.non]) rfl rfl rfl rfl (fun z => absurd z.2 (Int.lt_irrefl _))
        have : obAll [V.non] 1 [((0 : Int), [(V.str (Str.ofString "a"), [(1 : Int)])])] = none := ob_dead (j := 0) (y := ((0 : Int), [(V.str (Str.ofString "a"), [(1 : Int)])])) (s := (-1, [[V.non]])) rfl rfl (by
          unfold obStep
          rw [Option.bind_some, if_pos ⟨by decide, by decide⟩]
          have e2 : colBack ([V.non].getD (0 : Int).toNat .non) 1 [(V.str (Str.ofString "a"), [(1 : Int)])] = none := e1
          rw [e2]
          rfl)
        have hs : obAll [V.non] 1 [((0 : Int), [(V.str (Str.ofString "a"), [(1 : Int)])])] = some s := hs
        rw [this] at hs
        cases hs
      exact ⟨z2, fun tt htt => ⟨0, true, by decide, refd hx htt, q _⟩⟩
end
theorem all_mk {l : PySem.W.OpenLaw} {w : World} {K : PySem.W.Frag} {h : Heap} {mg : Str → Option Value} {fa fRdf fCB fOB fCell fDraw fWordBy fPool fCol fSame fRd fNts fOR fORd fSpo fKO fAsk fLaw CVellumError CNoRow CNoPrices CNoSlips CNoNotes CNoLine CNoName CTwiceNamed CTooMany : Addr} (X : K.In h) (G : h.Ns mainGlobals mg) (hfa : mg "law" = some (.ref fa))
    {odRdf anRdf odCB anCB odOB anOB odCell anCell odDraw anDraw odWordBy anWordBy odPool anPool odCol anCol odSame anSame odRd anRd odNts anNts odOR anOR odORd anORd odSpo anSpo odKO anKO odAsk anAsk odLaw anLaw : Option Addr} {slRdf slCB slOB slCell slDraw slWordBy slPool slCol slSame slRd slNts slOR slORd slSpo slKO slAsk slLaw : Array (Option Value)} {ocRdf kVRdf dcRdf pmRdf cdRdf ctRdf ocCB kVCB dcCB pmCB cdCB ctCB ocOB kVOB dcOB pmOB cdOB ctOB ocCell kVCell dcCell pmCell cdCell ctCell ocDraw kVDraw dcDraw pmDraw cdDraw ctDraw ocWordBy kVWordBy dcWordBy pmWordBy cdWordBy ctWordBy ocPool kVPool dcPool pmPool cdPool ctPool ocCol kVCol dcCol pmCol cdCol ctCol ocSame kVSame dcSame pmSame cdSame ctSame ocRd kVRd dcRd pmRd cdRd ctRd ocNts kVNts dcNts pmNts cdNts ctNts ocOR kVOR dcOR pmOR cdOR ctOR ocORd kVORd dcORd pmORd cdORd ctORd ocSpo kVSpo dcSpo pmSpo cdSpo ctSpo ocKO kVKO dcKO pmKO cdKO ctKO ocAsk kVAsk dcAsk pmAsk cdAsk ctAsk ocLaw kVLaw dcLaw pmLaw cdLaw ctLaw : Value}
    (aRdf : PySem.W.nsIn K mainGlobals "readings_of" = some (some (.ref fRdf))) (lRdf : K.lookup fRdf = some ⟨ocRdf, odRdf, .func (PySem.W.fnOf "readings_of" "readings_of" (defArgs sRdf) (defBody sRdf) (defScope sRdf) .none kVRdf dcRdf pmRdf anRdf cdRdf ctRdf), slRdf⟩) (cRdf : PySem.W.codeIn K cdRdf "readings_of" = true) (kRdf : PySem.W.keepIn K (.ref fRdf) = true)
    (aCB : PySem.W.nsIn K mainGlobals "column_back" = some (some (.ref fCB))) (lCB : K.lookup fCB = some ⟨ocCB, odCB, .func (PySem.W.fnOf "column_back" "column_back" (defArgs sCB) (defBody sCB) (defScope sCB) .none kVCB dcCB pmCB anCB cdCB ctCB), slCB⟩) (cCB : PySem.W.codeIn K cdCB "column_back" = true) (kCB : PySem.W.keepIn K (.ref fCB) = true)
    (aOB : PySem.W.nsIn K mainGlobals "collation_back" = some (some (.ref fOB))) (lOB : K.lookup fOB = some ⟨ocOB, odOB, .func (PySem.W.fnOf "collation_back" "collation_back" (defArgs sOB) (defBody sOB) (defScope sOB) .none kVOB dcOB pmOB anOB cdOB ctOB), slOB⟩) (cOB : PySem.W.codeIn K cdOB "collation_back" = true) (kOB : PySem.W.keepIn K (.ref fOB) = true)
    (aCell : PySem.W.nsIn K mainGlobals "_law_cell_at" = some (some (.ref fCell))) (lCell : K.lookup fCell = some ⟨ocCell, odCell, .func (PySem.W.fnOf "_law_cell_at" "_law_cell_at" (defArgs sCell) (defBody sCell) (defScope sCell) .none kVCell dcCell pmCell anCell cdCell ctCell), slCell⟩) (cCell : PySem.W.codeIn K cdCell "_law_cell_at" = true) (kCell : PySem.W.keepIn K (.ref fCell) = true)
    (aDraw : PySem.W.nsIn K mainGlobals "_law_draw" = some (some (.ref fDraw))) (lDraw : K.lookup fDraw = some ⟨ocDraw, odDraw, .func (PySem.W.fnOf "_law_draw" "_law_draw" (defArgs sDraw) (defBody sDraw) (defScope sDraw) .none kVDraw dcDraw pmDraw anDraw cdDraw ctDraw), slDraw⟩) (cDraw : PySem.W.codeIn K cdDraw "_law_draw" = true) (kDraw : PySem.W.keepIn K (.ref fDraw) = true)
    (aWordBy : PySem.W.nsIn K mainGlobals "_law_word_by" = some (some (.ref fWordBy))) (lWordBy : K.lookup fWordBy = some ⟨ocWordBy, odWordBy, .func (PySem.W.fnOf "_law_word_by" "_law_word_by" (defArgs sWordBy) (defBody sWordBy) (defScope sWordBy) .none kVWordBy dcWordBy pmWordBy anWordBy cdWordBy ctWordBy), slWordBy⟩) (cWordBy : PySem.W.codeIn K cdWordBy "_law_word_by" = true) (kWordBy : PySem.W.keepIn K (.ref fWordBy) = true)
    (aPool : PySem.W.nsIn K mainGlobals "_law_pool" = some (some (.ref fPool))) (lPool : K.lookup fPool = some ⟨ocPool, odPool, .func (PySem.W.fnOf "_law_pool" "_law_pool" (defArgs sPool) (defBody sPool) (defScope sPool) .none kVPool dcPool pmPool anPool cdPool ctPool), slPool⟩) (cPool : PySem.W.codeIn K cdPool "_law_pool" = true) (kPool : PySem.W.keepIn K (.ref fPool) = true)
    (aCol : PySem.W.nsIn K mainGlobals "_law_column_by" = some (some (.ref fCol))) (lCol : K.lookup fCol = some ⟨ocCol, odCol, .func (PySem.W.fnOf "_law_column_by" "_law_column_by" (defArgs sCol) (defBody sCol) (defScope sCol) .none kVCol dcCol pmCol anCol cdCol ctCol), slCol⟩) (cCol : PySem.W.codeIn K cdCol "_law_column_by" = true) (kCol : PySem.W.keepIn K (.ref fCol) = true)
    (aSame : PySem.W.nsIn K mainGlobals "_law_same" = some (some (.ref fSame))) (lSame : K.lookup fSame = some ⟨ocSame, odSame, .func (PySem.W.fnOf "_law_same" "_law_same" (defArgs sSame) (defBody sSame) (defScope sSame) .none kVSame dcSame pmSame anSame cdSame ctSame), slSame⟩) (cSame : PySem.W.codeIn K cdSame "_law_same" = true) (kSame : PySem.W.keepIn K (.ref fSame) = true)
    (aRd : PySem.W.nsIn K mainGlobals "_law_readings_of" = some (some (.ref fRd))) (lRd : K.lookup fRd = some ⟨ocRd, odRd, .func (PySem.W.fnOf "_law_readings_of" "_law_readings_of" (defArgs sRd) (defBody sRd) (defScope sRd) .none kVRd dcRd pmRd anRd cdRd ctRd), slRd⟩) (cRd : PySem.W.codeIn K cdRd "_law_readings_of" = true) (kRd : PySem.W.keepIn K (.ref fRd) = true)
    (aNts : PySem.W.nsIn K mainGlobals "_law_notes_of" = some (some (.ref fNts))) (lNts : K.lookup fNts = some ⟨ocNts, odNts, .func (PySem.W.fnOf "_law_notes_of" "_law_notes_of" (defArgs sNts) (defBody sNts) (defScope sNts) .none kVNts dcNts pmNts anNts cdNts ctNts), slNts⟩) (cNts : PySem.W.codeIn K cdNts "_law_notes_of" = true) (kNts : PySem.W.keepIn K (.ref fNts) = true)
    (aOR : PySem.W.nsIn K mainGlobals "_law_other_rows" = some (some (.ref fOR))) (lOR : K.lookup fOR = some ⟨ocOR, odOR, .func (PySem.W.fnOf "_law_other_rows" "_law_other_rows" (defArgs sOR) (defBody sOR) (defScope sOR) .none kVOR dcOR pmOR anOR cdOR ctOR), slOR⟩) (cOR : PySem.W.codeIn K cdOR "_law_other_rows" = true) (kOR : PySem.W.keepIn K (.ref fOR) = true)
    (aORd : PySem.W.nsIn K mainGlobals "_law_other_readings" = some (some (.ref fORd))) (lORd : K.lookup fORd = some ⟨ocORd, odORd, .func (PySem.W.fnOf "_law_other_readings" "_law_other_readings" (defArgs sORd) (defBody sORd) (defScope sORd) .none kVORd dcORd pmORd anORd cdORd ctORd), slORd⟩) (cORd : PySem.W.codeIn K cdORd "_law_other_readings" = true) (kORd : PySem.W.keepIn K (.ref fORd) = true)
    (aSpo : PySem.W.nsIn K mainGlobals "_law_spoilt" = some (some (.ref fSpo))) (lSpo : K.lookup fSpo = some ⟨ocSpo, odSpo, .func (PySem.W.fnOf "_law_spoilt" "_law_spoilt" (defArgs sSpo) (defBody sSpo) (defScope sSpo) .none kVSpo dcSpo pmSpo anSpo cdSpo ctSpo), slSpo⟩) (cSpo : PySem.W.codeIn K cdSpo "_law_spoilt" = true) (kSpo : PySem.W.keepIn K (.ref fSpo) = true)
    (aKO : PySem.W.nsIn K mainGlobals "_law_kind_of" = some (some (.ref fKO))) (lKO : K.lookup fKO = some ⟨ocKO, odKO, .func (PySem.W.fnOf "_law_kind_of" "_law_kind_of" (defArgs sKO) (defBody sKO) (defScope sKO) .none kVKO dcKO pmKO anKO cdKO ctKO), slKO⟩) (cKO : PySem.W.codeIn K cdKO "_law_kind_of" = true) (kKO : PySem.W.keepIn K (.ref fKO) = true)
    (aAsk : PySem.W.nsIn K mainGlobals "_law_asked" = some (some (.ref fAsk))) (lAsk : K.lookup fAsk = some ⟨ocAsk, odAsk, .func (PySem.W.fnOf "_law_asked" "_law_asked" (defArgs sAsk) (defBody sAsk) (defScope sAsk) .none kVAsk dcAsk pmAsk anAsk cdAsk ctAsk), slAsk⟩) (cAsk : PySem.W.codeIn K cdAsk "_law_asked" = true) (kAsk : PySem.W.keepIn K (.ref fAsk) = true)
    (aLaw : PySem.W.nsIn K mainGlobals "law" = some (some (.ref fLaw))) (lLaw : K.lookup fLaw = some ⟨ocLaw, odLaw, .func (PySem.W.fnOf "law" "law" (defArgs sLaw) (defBody sLaw) (defScope sLaw) .none kVLaw dcLaw pmLaw anLaw cdLaw ctLaw), slLaw⟩) (cLaw : PySem.W.codeIn K cdLaw "law" = true) (kLaw : PySem.W.keepIn K (.ref fLaw) = true)
    (gVellumError : PySem.W.nsIn K mainGlobals "VellumError" = some (some (.ref CVellumError)))
    (gNoRow : PySem.W.nsIn K mainGlobals "NoRow" = some (some (.ref CNoRow)))
    (gNoPrices : PySem.W.nsIn K mainGlobals "NoPrices" = some (some (.ref CNoPrices)))
    (gNoSlips : PySem.W.nsIn K mainGlobals "NoSlips" = some (some (.ref CNoSlips)))
    (gNoNotes : PySem.W.nsIn K mainGlobals "NoNotes" = some (some (.ref CNoNotes)))
    (gNoLine : PySem.W.nsIn K mainGlobals "NoLine" = some (some (.ref CNoLine)))
    (gNoName : PySem.W.nsIn K mainGlobals "NoName" = some (some (.ref CNoName)))
    (gTwiceNamed : PySem.W.nsIn K mainGlobals "TwiceNamed" = some (some (.ref CTwiceNamed)))
    (gTooMany : PySem.W.nsIn K mainGlobals "TooMany" = some (some (.ref CTooMany)))
    (blen : PySem.W.nsIn K mainGlobals "len" = some none)
    (brange : PySem.W.nsIn K mainGlobals "range" = some none)
    (bisinstance : PySem.W.nsIn K mainGlobals "isinstance" = some none)
    (btuple : PySem.W.nsIn K mainGlobals "tuple" = some none)
    (bstr : PySem.W.nsIn K mainGlobals "str" = some none)
    (bint : PySem.W.nsIn K mainGlobals "int" = some none)
    (bbool : PySem.W.nsIn K mainGlobals "bool" = some none)
    (ball : PySem.W.nsIn K mainGlobals "all" = some none)
    (benumerate : PySem.W.nsIn K mainGlobals "enumerate" = some none)
    (breversed : PySem.W.nsIn K mainGlobals "reversed" = some none)
    (bsorted : PySem.W.nsIn K mainGlobals "sorted" = some none)
    (bValueError : PySem.W.nsIn K mainGlobals "ValueError" = some none)
    (vVellumError : PySem.W.excIn K CVellumError [Value.type "ValueError", Value.type "Exception", Value.type "BaseException", Value.type "object"] "ValueError.__new__" = true)
    (vNoNotes : PySem.W.excIn K CNoNotes [Value.type "ValueError", Value.type "Exception", Value.type "BaseException", Value.type "object"] "ValueError.__new__" = true)
    (pNoNotes : PySem.W.findIn K (.ref CNoNotes) "__getattribute__" = some (some (.builtin "BaseException.__getattribute__")))
    (oNoNotes : PySem.W.findIn K (.ref CNoNotes) "__getattr__" = some none)
    (qNoNotes : PySem.W.findIn K (.ref CNoNotes) "__class__" = some (some (.builtin "object.__class__")))
    (rNoNotes : PySem.W.specialIn K (.builtin "object.__class__") "__get__" = some (some (.builtin "getset_descriptor.__get__")))
    (sNoNotes : PySem.W.takesIn K (.builtin "object.__class__") = some true)
    (tNoNotes : PySem.W.mroIn K CNoNotes (.type "object") = some true)
    (uNoNotes : PySem.W.mroIn K CNoNotes (.type "BaseException") = some true)
    (h1 : PySem.W.mroIn K CNoNotes (.ref CVellumError) = some true)
    (i1 : PySem.W.kitOne K (.ref CNoNotes) (.ref CNoNotes) = some true)
    (i2 : PySem.W.kitOne K (.ref CNoNotes) (.type "ValueError") = some true)
    (i4 : PySem.W.kitAny K (.ref CNoNotes) [.ref CNoLine, .ref CNoName, .ref CNoPrices, .ref CNoRow, .ref CNoSlips, .ref CTooMany, .ref CTwiceNamed] = some false)
    (j1 : PySem.W.kitOne K (.type "str") (.type "tuple") = some false)
    (j2 : PySem.W.kitOne K (.type "int") (.type "tuple") = some false)
    (j3 : PySem.W.kitOne K (.type "int") (.type "str") = some false)
    (i6 : PySem.W.kitOne K (.type "int") (.type "bool") = some false)
    (j4 : PySem.W.kitOne K (.type "NoneType") (.type "tuple") = some false)
    : ∃ fd : FuncData, (∀ (s : Shared) (v : Value), BindsTo s fd ⟨[v], []⟩ [("script", v)]) ∧ ∀ base : Heap, K.In base → base.Ns mainGlobals mg → FnOk l.prog w K mg base CX0 7 fa fd ["script"] (spLaw K) := by
  have e := hfa.symm.trans (PySem.W.mg_of X G aLaw)
  cases e
  have FRdf := fun_mk (st := sRdf) lRdf cRdf kRdf
  have b_Rdf := FRdf.binds (ps := ["column"]) fun _ _ _ _ _ _ us hl => match us, hl with | [_], _ => rfl
  have DRdf : Dfn K mg "readings_of" sRdf fRdf _ ["column"] := ⟨FRdf, PySem.W.mg_of X G aRdf, b_Rdf⟩
  have FCB := fun_mk (st := sCB) lCB cCB kCB
  have b_CB := FCB.binds (ps := ["entry", "many", "readings"]) fun _ _ _ _ _ _ us hl => match us, hl with | [_, _, _], _ => rfl
  have DCB : Dfn K mg "column_back" sCB fCB _ ["entry", "many", "readings"] := ⟨FCB, PySem.W.mg_of X G aCB, b_CB⟩
  have FOB := fun_mk (st := sOB) lOB cOB kOB
  have b_OB := FOB.binds (ps := ["entries", "many", "notes"]) fun _ _ _ _ _ _ us hl => match us, hl with | [_, _, _], _ => rfl
  have DOB : Dfn K mg "collation_back" sOB fOB _ ["entries", "many", "notes"] := ⟨FOB, PySem.W.mg_of X G aOB, b_OB⟩
  have FCell := fun_mk (st := sCell) lCell cCell kCell
  have b_Cell := FCell.binds (ps := ["script", "k"]) fun _ _ _ _ _ _ us hl => match us, hl with | [_, _], _ => rfl
  have DCell : Dfn K mg "_law_cell_at" sCell fCell _ ["script", "k"] := ⟨FCell, PySem.W.mg_of X G aCell, b_Cell⟩
  have FDraw := fun_mk (st := sDraw) lDraw cDraw kDraw
  have b_Draw := FDraw.binds (ps := ["cell", "k", "many"]) fun _ _ _ _ _ _ us hl => match us, hl with | [_, _, _], _ => rfl
  have DDraw : Dfn K mg "_law_draw" sDraw fDraw _ ["cell", "k", "many"] := ⟨FDraw, PySem.W.mg_of X G aDraw, b_Draw⟩
  have FWordBy := fun_mk (st := sWordBy) lWordBy cWordBy kWordBy
  have b_WordBy := FWordBy.binds (ps := ["cell", "k"]) fun _ _ _ _ _ _ us hl => match us, hl with | [_, _], _ => rfl
  have DWordBy : Dfn K mg "_law_word_by" sWordBy fWordBy _ ["cell", "k"] := ⟨FWordBy, PySem.W.mg_of X G aWordBy, b_WordBy⟩
  have FPool := fun_mk (st := sPool) lPool cPool kPool
  have b_Pool := FPool.binds (ps := ["cell"]) fun _ _ _ _ _ _ us hl => match us, hl with | [_], _ => rfl
  have DPool : Dfn K mg "_law_pool" sPool fPool _ ["cell"] := ⟨FPool, PySem.W.mg_of X G aPool, b_Pool⟩
  have FCol := fun_mk (st := sCol) lCol cCol kCol
  have b_Col := FCol.binds (ps := ["cell", "pool", "many"]) fun _ _ _ _ _ _ us hl => match us, hl with | [_, _, _], _ => rfl
  have DCol : Dfn K mg "_law_column_by" sCol fCol _ ["cell", "pool", "many"] := ⟨FCol, PySem.W.mg_of X G aCol, b_Col⟩
  have FSame := fun_mk (st := sSame) lSame cSame kSame
  have b_Same := FSame.binds (ps := ["found", "due"]) fun _ _ _ _ _ _ us hl => match us, hl with | [_, _], _ => rfl
  have DSame : Dfn K mg "_law_same" sSame fSame _ ["found", "due"] := ⟨FSame, PySem.W.mg_of X G aSame, b_Same⟩
  have FRd := fun_mk (st := sRd) lRd cRd kRd
  have b_Rd := FRd.binds (ps := ["column"]) fun _ _ _ _ _ _ us hl => match us, hl with | [_], _ => rfl
  have DRd : Dfn K mg "_law_readings_of" sRd fRd _ ["column"] := ⟨FRd, PySem.W.mg_of X G aRd, b_Rd⟩
  have FNts := fun_mk (st := sNts) lNts cNts kNts
  have b_Nts := FNts.binds (ps := ["columns"]) fun _ _ _ _ _ _ us hl => match us, hl with | [_], _ => rfl
  have DNts : Dfn K mg "_law_notes_of" sNts fNts _ ["columns"] := ⟨FNts, PySem.W.mg_of X G aNts, b_Nts⟩
  have FOR := fun_mk (st := sOR) lOR cOR kOR
  have b_OR := FOR.binds (ps := ["rows", "way", "many"]) fun _ _ _ _ _ _ us hl => match us, hl with | [_, _, _], _ => rfl
  have DOR : Dfn K mg "_law_other_rows" sOR fOR _ ["rows", "way", "many"] := ⟨FOR, PySem.W.mg_of X G aOR, b_OR⟩
  have FORd := fun_mk (st := sORd) lORd cORd kORd
  have b_ORd := FORd.binds (ps := ["base", "readings", "way", "at", "many"]) fun _ _ _ _ _ _ us hl => match us, hl with | [_, _, _, _, _], _ => rfl
  have DORd : Dfn K mg "_law_other_readings" sORd fORd _ ["base", "readings", "way", "at", "many"] := ⟨FORd, PySem.W.mg_of X G aORd, b_ORd⟩
  have FSpo := fun_mk (st := sSpo) lSpo cSpo kSpo
  have b_Spo := FSpo.binds (ps := ["columns", "notes", "cell"]) fun _ _ _ _ _ _ us hl => match us, hl with | [_, _, _], _ => rfl
  have DSpo : Dfn K mg "_law_spoilt" sSpo fSpo _ ["columns", "notes", "cell"] := ⟨FSpo, PySem.W.mg_of X G aSpo, b_Spo⟩
  have FKO := fun_mk (st := sKO) lKO cKO kKO
  have b_KO := FKO.binds (ps := ["found"]) fun _ _ _ _ _ _ us hl => match us, hl with | [_], _ => rfl
  have DKO : Dfn K mg "_law_kind_of" sKO fKO _ ["found"] := ⟨FKO, PySem.W.mg_of X G aKO, b_KO⟩
  have FAsk := fun_mk (st := sAsk) lAsk cAsk kAsk
  have b_Ask := FAsk.binds (ps := ["entries", "many", "notes"]) fun _ _ _ _ _ _ us hl => match us, hl with | [_, _, _], _ => rfl
  have DAsk : Dfn K mg "_law_asked" sAsk fAsk _ ["entries", "many", "notes"] := ⟨FAsk, PySem.W.mg_of X G aAsk, b_Ask⟩
  have FLaw := fun_mk (st := sLaw) lLaw cLaw kLaw
  have mVellumError := PySem.W.mg_of X G gVellumError
  have mNoRow := PySem.W.mg_of X G gNoRow
  have mNoPrices := PySem.W.mg_of X G gNoPrices
  have mNoSlips := PySem.W.mg_of X G gNoSlips
  have mNoNotes := PySem.W.mg_of X G gNoNotes
  have mNoLine := PySem.W.mg_of X G gNoLine
  have mNoName := PySem.W.mg_of X G gNoName
  have mTwiceNamed := PySem.W.mg_of X G gTwiceNamed
  have mTooMany := PySem.W.mg_of X G gTooMany
  have mlen := PySem.W.mg_none_of X G blen
  have mrange := PySem.W.mg_none_of X G brange
  have misinstance := PySem.W.mg_none_of X G bisinstance
  have mtuple := PySem.W.mg_none_of X G btuple
  have mstr := PySem.W.mg_none_of X G bstr
  have mint := PySem.W.mg_none_of X G bint
  have mbool := PySem.W.mg_none_of X G bbool
  have mall := PySem.W.mg_none_of X G ball
  have menumerate := PySem.W.mg_none_of X G benumerate
  have mreversed := PySem.W.mg_none_of X G breversed
  have msorted := PySem.W.mg_none_of X G bsorted
  have mValueError := PySem.W.mg_none_of X G bValueError
  exact ⟨PySem.W.fnOf "law" "law" (defArgs sLaw) (defBody sLaw) (defScope sLaw) .none kVLaw dcLaw pmLaw anLaw cdLaw ctLaw, fun s v => .of_eq rfl, fun base _ _ => ok_law FLaw DRdf DCB DOB DCell DDraw DWordBy DPool DCol DSame DRd DNts DOR DORd DSpo DKO DAsk mlen mrange misinstance mtuple mstr mint mbool mall menumerate mreversed msorted mValueError mVellumError mNoRow mNoPrices mNoSlips mNoNotes mNoLine mNoName mTwiceNamed mTooMany ⟨j1, j2, j3, i6, j4⟩ ⟨⟨vNoNotes, pNoNotes, oNoNotes, qNoNotes, rNoNotes, sNoNotes, tNoNotes, uNoNotes⟩, Hits.of vNoNotes vVellumError h1, i1, i2, i4⟩⟩
theorem walk {l : PySem.W.OpenLaw} {q : Program} {loose : List Str} {XP : (Str → Option Value) → Heap → Prop} {YP : World → Heap → Prop} {d : DefRec} {K : Params → PySem.W.Frag} (hn : l.most = some 63) (hdf : d.params.defaults = [])
    (hY : ∀ (w : World) (h : Heap), YP w h → (K w.params).In h)
    (F : ∀ (w : World) (mg : Str → Option Value) (fa : Addr) (h : Heap), (K w.params).In h → h.Ns mainGlobals mg → mg d.name = some (.ref fa) →
      ∃ fd : FuncData, (∀ (s : Shared) (u : Value), BindsTo s fd ⟨[u], []⟩ [("script", u)]) ∧ ∀ base : Heap, (K w.params).In base → base.Ns mainGlobals mg → FnOk l.prog w (K w.params) mg base CX0 7 fa fd ["script"] (spLaw (K w.params))) :
    PySem.W.WalkO q loose XP YP l.row.toRowW d [] (fun f vs => PySem.call f vs) :=
  L3.walk_ofB (n := 63) (k := 7) (x := "script") (CX := fun _ => CX0) (sp := fun w => spLaw (K w.params)) hn (by decide) hdf ⟨rfl, by decide, by decide⟩ hY F (fun _ _ a ns hl hb _ hS => ⟨a, ns, rfl, hS, hl, hb, fun _ => rfl⟩) fun _ _ _ _ _ z => z
noncomputable abbrev en (P : Params) (z : Str) (t : Nat) (v : Value) : DictEntry := ⟨PyData.keyHash P z, .str z t, v⟩
noncomputable abbrev fn (n : String) (s : Stmt) (m : String) (t c : Nat) : Obj := ⟨.type "function", none, .func (PySem.W.fnOf (Str.ofString n) (Str.ofString n) (defArgs s) (defBody s) (defScope s) .none .none .none (.str (Str.ofString m) t) none (.ref c) .none), #[]⟩
noncomputable abbrev co (n : String) (t u v a b c r l q y m k z : Nat) : Obj := { cls := .type "code", data := .fields #[.str (Str.ofString n) t, .str (Str.ofString n) u, .str (Str.ofString "/claim/cut.py") v, .int a 0, .int b 0, .int 0 0, .int 0 0, .int c 0, .ref r, .bool true, .int l 0, .ref q, .none, .none, .none, .ref y, .int m 0, .int k 0, .str (Str.ofString "/claim/cut.py") z] }
noncomputable def hp : Params → PySem.W.Frag := fun P =>
  (nat_lit 2, ({ cls := .none, data := .dict #[] } : Obj)) ::
  (nat_lit 3, ({ cls := .type "dict", data := .dict #[en P (Str.ofString "__name__") 165 (.str (Str.ofString "law_vellum_k29_notes_refused") 366), en P (Str.ofString "__doc__") 166 (.none), en P (Str.ofString "__package__") 167 (.none), en P (Str.ofString "__loader__") 168 (.builtin "__main__.__loader__#opaque"), en P (Str.ofString "__spec__") 169 (.none), en P (Str.ofString "__annotations__") 170 (.ref 6), en P (Str.ofString "__builtins__") 171 (.ref 4), en P (Str.ofString "__file__") 173 (.str (Str.ofString "/claim/cut.py") 172), en P (Str.ofString "__cached__") 174 (.none), en P (Str.ofString "VellumError") 206 (.ref 24), en P (Str.ofString "NoRow") 222 (.ref 37), en P (Str.ofString "NoPrices") 238 (.ref 49), en P (Str.ofString "NoSlips") 254 (.ref 61), en P (Str.ofString "NoNotes") 270 (.ref 73), en P (Str.ofString "NoLine") 286 (.ref 85), en P (Str.ofString "NoName") 302 (.ref 97), en P (Str.ofString "TwiceNamed") 318 (.ref 109), en P (Str.ofString "TooMany") 334 (.ref 121), en P (Str.ofString "readings_of") 346 (.ref 130), en P (Str.ofString "column_back") 359 (.ref 137), en P (Str.ofString "collation_back") 365 (.ref 142), en P (Str.ofString "_law_cell_at") 375 (.ref 149), en P (Str.ofString "_law_draw") 386 (.ref 156), en P (Str.ofString "_law_word_by") 396 (.ref 163), en P (Str.ofString "_law_pool") 402 (.ref 168), en P (Str.ofString "_law_column_by") 415 (.ref 175), en P (Str.ofString "_law_same") 421 (.ref 180), en P (Str.ofString "_law_readings_of") 427 (.ref 185), en P (Str.ofString "_law_notes_of") 437 (.ref 192), en P (Str.ofString "_law_other_rows") 446 (.ref 199), en P (Str.ofString "_law_other_readings") 459 (.ref 206), en P (Str.ofString "_law_spoilt") 475 (.ref 213), en P (Str.ofString "_law_kind_of") 482 (.ref 220), en P (Str.ofString "_law_asked") 494 (.ref 227), en P (Str.ofString "law") 500 (.ref 232)] 35 } : Obj)) ::
  (nat_lit 23, ({ cls := .type "dict", data := .dict #[en P (Str.ofString "__module__") 196 (.str (Str.ofString "vellum.errors") 187), en P (Str.ofString "__firstlineno__") 200 (.int 2 199), en P (Str.ofString "__static_attributes__") 201 (.ref 22), en P (Str.ofString "__weakref__") 203 (.ref 25), en P (Str.ofString "__doc__") 204 (.none)] 3 } : Obj)) ::
  (nat_lit 24, ({ cls := .type "type", data := .cls { name := Str.ofString "VellumError", bases := [.type "ValueError"], mro := [.ref 24, .type "ValueError", .type "Exception", .type "BaseException", .type "object"], ns := 23, qualname := Str.ofString "VellumError", subclasses := [.ref 37, .ref 49, .ref 61, .ref 73, .ref 85, .ref 97, .ref 109, .ref 121] }, slots := #[Option.some (.ref 15), none, Option.some (.str (Str.ofString "VellumError") 189), Option.some (.str (Str.ofString "VellumError") 197), Option.some (.builtin "ValueError.__new__"), Option.some (.bool true)] } : Obj)) ::
  (nat_lit 25, ({ cls := .type "getset_descriptor", data := .fields #[.str (Str.ofString "__weakref__") 202, .ref 24, .builtin "ExceptionGroup.__weakref__", .none] } : Obj)) ::
  (nat_lit 36, ({ cls := .type "dict", data := .dict #[en P (Str.ofString "__module__") 214 (.str (Str.ofString "vellum.errors") 187), en P (Str.ofString "__firstlineno__") 218 (.int 4 217), en P (Str.ofString "__static_attributes__") 219 (.ref 35), en P (Str.ofString "__doc__") 220 (.none)] 2 } : Obj)) ::
  (nat_lit 37, ({ cls := .type "type", data := .cls { name := Str.ofString "NoRow", bases := [.ref 24], mro := [.ref 37, .ref 24, .type "ValueError", .type "Exception", .type "BaseException", .type "object"], ns := 36, qualname := Str.ofString "NoRow" }, slots := #[Option.some (.ref 28), none, Option.some (.str (Str.ofString "NoRow") 207), Option.some (.str (Str.ofString "NoRow") 215), Option.some (.builtin "ValueError.__new__"), Option.some (.bool true)] } : Obj)) ::
  (nat_lit 48, ({ cls := .type "dict", data := .dict #[en P (Str.ofString "__module__") 230 (.str (Str.ofString "vellum.errors") 187), en P (Str.ofString "__firstlineno__") 234 (.int 6 233), en P (Str.ofString "__static_attributes__") 235 (.ref 47), en P (Str.ofString "__doc__") 236 (.none)] 2 } : Obj)) ::
  (nat_lit 49, ({ cls := .type "type", data := .cls { name := Str.ofString "NoPrices", bases := [.ref 24], mro := [.ref 49, .ref 24, .type "ValueError", .type "Exception", .type "BaseException", .type "object"], ns := 48, qualname := Str.ofString "NoPrices" }, slots := #[Option.some (.ref 40), none, Option.some (.str (Str.ofString "NoPrices") 223), Option.some (.str (Str.ofString "NoPrices") 231), Option.some (.builtin "ValueError.__new__"), Option.some (.bool true)] } : Obj)) ::
  (nat_lit 60, ({ cls := .type "dict", data := .dict #[en P (Str.ofString "__module__") 246 (.str (Str.ofString "vellum.errors") 187), en P (Str.ofString "__firstlineno__") 250 (.int 8 249), en P (Str.ofString "__static_attributes__") 251 (.ref 59), en P (Str.ofString "__doc__") 252 (.none)] 2 } : Obj)) ::
  (nat_lit 61, ({ cls := .type "type", data := .cls { name := Str.ofString "NoSlips", bases := [.ref 24], mro := [.ref 61, .ref 24, .type "ValueError", .type "Exception", .type "BaseException", .type "object"], ns := 60, qualname := Str.ofString "NoSlips" }, slots := #[Option.some (.ref 52), none, Option.some (.str (Str.ofString "NoSlips") 239), Option.some (.str (Str.ofString "NoSlips") 247), Option.some (.builtin "ValueError.__new__"), Option.some (.bool true)] } : Obj)) ::
  (nat_lit 72, ({ cls := .type "dict", data := .dict #[en P (Str.ofString "__module__") 262 (.str (Str.ofString "vellum.errors") 187), en P (Str.ofString "__firstlineno__") 266 (.int 10 265), en P (Str.ofString "__static_attributes__") 267 (.ref 71), en P (Str.ofString "__doc__") 268 (.none)] 2 } : Obj)) ::
  (nat_lit 73, ({ cls := .type "type", data := .cls { name := Str.ofString "NoNotes", bases := [.ref 24], mro := [.ref 73, .ref 24, .type "ValueError", .type "Exception", .type "BaseException", .type "object"], ns := 72, qualname := Str.ofString "NoNotes" }, slots := #[Option.some (.ref 64), none, Option.some (.str (Str.ofString "NoNotes") 255), Option.some (.str (Str.ofString "NoNotes") 263), Option.some (.builtin "ValueError.__new__"), Option.some (.bool true)] } : Obj)) ::
  (nat_lit 84, ({ cls := .type "dict", data := .dict #[en P (Str.ofString "__module__") 278 (.str (Str.ofString "vellum.errors") 187), en P (Str.ofString "__firstlineno__") 282 (.int 12 281), en P (Str.ofString "__static_attributes__") 283 (.ref 83), en P (Str.ofString "__doc__") 284 (.none)] 2 } : Obj)) ::
  (nat_lit 85, ({ cls := .type "type", data := .cls { name := Str.ofString "NoLine", bases := [.ref 24], mro := [.ref 85, .ref 24, .type "ValueError", .type "Exception", .type "BaseException", .type "object"], ns := 84, qualname := Str.ofString "NoLine" }, slots := #[Option.some (.ref 76), none, Option.some (.str (Str.ofString "NoLine") 271), Option.some (.str (Str.ofString "NoLine") 279), Option.some (.builtin "ValueError.__new__"), Option.some (.bool true)] } : Obj)) ::
  (nat_lit 96, ({ cls := .type "dict", data := .dict #[en P (Str.ofString "__module__") 294 (.str (Str.ofString "vellum.errors") 187), en P (Str.ofString "__firstlineno__") 298 (.int 14 297), en P (Str.ofString "__static_attributes__") 299 (.ref 95), en P (Str.ofString "__doc__") 300 (.none)] 2 } : Obj)) ::
  (nat_lit 97, ({ cls := .type "type", data := .cls { name := Str.ofString "NoName", bases := [.ref 24], mro := [.ref 97, .ref 24, .type "ValueError", .type "Exception", .type "BaseException", .type "object"], ns := 96, qualname := Str.ofString "NoName" }, slots := #[Option.some (.ref 88), none, Option.some (.str (Str.ofString "NoName") 287), Option.some (.str (Str.ofString "NoName") 295), Option.some (.builtin "ValueError.__new__"), Option.some (.bool true)] } : Obj)) ::
  (nat_lit 108, ({ cls := .type "dict", data := .dict #[en P (Str.ofString "__module__") 310 (.str (Str.ofString "vellum.errors") 187), en P (Str.ofString "__firstlineno__") 314 (.int 16 313), en P (Str.ofString "__static_attributes__") 315 (.ref 107), en P (Str.ofString "__doc__") 316 (.none)] 2 } : Obj)) ::
  (nat_lit 109, ({ cls := .type "type", data := .cls { name := Str.ofString "TwiceNamed", bases := [.ref 24], mro := [.ref 109, .ref 24, .type "ValueError", .type "Exception", .type "BaseException", .type "object"], ns := 108, qualname := Str.ofString "TwiceNamed" }, slots := #[Option.some (.ref 100), none, Option.some (.str (Str.ofString "TwiceNamed") 303), Option.some (.str (Str.ofString "TwiceNamed") 311), Option.some (.builtin "ValueError.__new__"), Option.some (.bool true)] } : Obj)) ::
  (nat_lit 120, ({ cls := .type "dict", data := .dict #[en P (Str.ofString "__module__") 326 (.str (Str.ofString "vellum.errors") 187), en P (Str.ofString "__firstlineno__") 330 (.int 18 329), en P (Str.ofString "__static_attributes__") 331 (.ref 119), en P (Str.ofString "__doc__") 332 (.none)] 2 } : Obj)) ::
  (nat_lit 121, ({ cls := .type "type", data := .cls { name := Str.ofString "TooMany", bases := [.ref 24], mro := [.ref 121, .ref 24, .type "ValueError", .type "Exception", .type "BaseException", .type "object"], ns := 120, qualname := Str.ofString "TooMany" }, slots := #[Option.some (.ref 112), none, Option.some (.str (Str.ofString "TooMany") 319), Option.some (.str (Str.ofString "TooMany") 327), Option.some (.builtin "ValueError.__new__"), Option.some (.bool true)] } : Obj)) ::
  (nat_lit 129, ({ cls := .type "code", data := .fields #[.str (Str.ofString "readings_of") 337, .str (Str.ofString "readings_of") 338, .str (Str.ofString "/claim/cut.py") 339, .int 21 0, .int 1 0, .int 0 0, .int 0 0, .int 3 0, .ref 124, .bool true, .int 181 0, .ref 125, .none, .ref 126, .ref 127, .ref 128, .int 344 0, .int 21 0, .str (Str.ofString "/claim/cut.py") 345] } : Obj)) ::
  (nat_lit 130, (fn "readings_of" sRdf "vellum.notes" 335 129 : Obj)) ::
  (nat_lit 136, ({ cls := .type "code", data := .fields #[.str (Str.ofString "column_back") 347, .str (Str.ofString "column_back") 348, .str (Str.ofString "/claim/cut.py") 349, .int 27 0, .int 3 0, .int 0 0, .int 0 0, .int 3 0, .ref 131, .bool true, .int 181 0, .ref 132, .none, .ref 133, .ref 134, .ref 135, .int 357 0, .int 27 0, .str (Str.ofString "/claim/cut.py") 358] } : Obj)) ::
  (nat_lit 137, (fn "column_back" sCB "vellum.notes" 335 136 : Obj)) ::
  (nat_lit 141, (co "collation_back" 360 361 362 37 3 3 138 181 139 140 363 37 364 : Obj)) ::
  (nat_lit 142, (fn "collation_back" sOB "vellum.notes" 335 141 : Obj)) ::
  (nat_lit 148, ({ cls := .type "code", data := .fields #[.str (Str.ofString "_law_cell_at") 368, .str (Str.ofString "_law_cell_at") 369, .str (Str.ofString "/claim/cut.py") 370, .int 47 0, .int 2 0, .int 0 0, .int 0 0, .int 3 0, .ref 143, .bool true, .int 181 0, .ref 144, .none, .ref 145, .ref 146, .ref 147, .int 373 0, .int 47 0, .str (Str.ofString "/claim/cut.py") 374] } : Obj)) ::
  (nat_lit 149, (fn "_law_cell_at" sCell "law_vellum_k29_notes_refused" 366 148 : Obj)) ::
  (nat_lit 155, ({ cls := .type "code", data := .fields #[.str (Str.ofString "_law_draw") 376, .str (Str.ofString "_law_draw") 377, .str (Str.ofString "/claim/cut.py") 378, .int 51 0, .int 3 0, .int 0 0, .int 0 0, .int 3 0, .ref 150, .bool true, .int 181 0, .ref 151, .none, .ref 152, .ref 153, .ref 154, .int 384 0, .int 51 0, .str (Str.ofString "/claim/cut.py") 385] } : Obj)) ::
  (nat_lit 156, (fn "_law_draw" sDraw "law_vellum_k29_notes_refused" 366 155 : Obj)) ::
  (nat_lit 162, ({ cls := .type "code", data := .fields #[.str (Str.ofString "_law_word_by") 387, .str (Str.ofString "_law_word_by") 388, .str (Str.ofString "/claim/cut.py") 389, .int 55 0, .int 2 0, .int 0 0, .int 0 0, .int 3 0, .ref 157, .bool true, .int 181 0, .ref 158, .none, .ref 159, .ref 160, .ref 161, .int 394 0, .int 55 0, .str (Str.ofString "/claim/cut.py") 395] } : Obj)) ::
  (nat_lit 163, (fn "_law_word_by" sWordBy "law_vellum_k29_notes_refused" 366 162 : Obj)) ::
  (nat_lit 167, (co "_law_pool" 397 398 399 60 1 3 164 181 165 166 400 60 401 : Obj)) ::
  (nat_lit 168, (fn "_law_pool" sPool "law_vellum_k29_notes_refused" 366 167 : Obj)) ::
  (nat_lit 174, ({ cls := .type "code", data := .fields #[.str (Str.ofString "_law_column_by") 403, .str (Str.ofString "_law_column_by") 404, .str (Str.ofString "/claim/cut.py") 405, .int 65 0, .int 3 0, .int 0 0, .int 0 0, .int 3 0, .ref 169, .bool true, .int 181 0, .ref 170, .none, .ref 171, .ref 172, .ref 173, .int 413 0, .int 65 0, .str (Str.ofString "/claim/cut.py") 414] } : Obj)) ::
  (nat_lit 175, (fn "_law_column_by" sCol "law_vellum_k29_notes_refused" 366 174 : Obj)) ::
  (nat_lit 179, (co "_law_same" 416 417 418 74 2 3 176 181 177 178 419 74 420 : Obj)) ::
  (nat_lit 180, (fn "_law_same" sSame "law_vellum_k29_notes_refused" 366 179 : Obj)) ::
  (nat_lit 184, (co "_law_readings_of" 422 423 424 84 1 3 181 181 182 183 425 84 426 : Obj)) ::
  (nat_lit 185, (fn "_law_readings_of" sRd "law_vellum_k29_notes_refused" 366 184 : Obj)) ::
  (nat_lit 191, ({ cls := .type "code", data := .fields #[.str (Str.ofString "_law_notes_of") 428, .str (Str.ofString "_law_notes_of") 429, .str (Str.ofString "/claim/cut.py") 430, .int 93 0, .int 1 0, .int 0 0, .int 0 0, .int 3 0, .ref 186, .bool true, .int 181 0, .ref 187, .none, .ref 188, .ref 189, .ref 190, .int 435 0, .int 93 0, .str (Str.ofString "/claim/cut.py") 436] } : Obj)) ::
  (nat_lit 192, (fn "_law_notes_of" sNts "law_vellum_k29_notes_refused" 366 191 : Obj)) ::
  (nat_lit 198, ({ cls := .type "code", data := .fields #[.str (Str.ofString "_law_other_rows") 438, .str (Str.ofString "_law_other_rows") 439, .str (Str.ofString "/claim/cut.py") 440, .int 100 0, .int 3 0, .int 0 0, .int 0 0, .int 3 0, .ref 193, .bool true, .int 181 0, .ref 194, .none, .ref 195, .ref 196, .ref 197, .int 444 0, .int 100 0, .str (Str.ofString "/claim/cut.py") 445] } : Obj)) ::
  (nat_lit 199, (fn "_law_other_rows" sOR "law_vellum_k29_notes_refused" 366 198 : Obj)) ::
  (nat_lit 205, ({ cls := .type "code", data := .fields #[.str (Str.ofString "_law_other_readings") 447, .str (Str.ofString "_law_other_readings") 448, .str (Str.ofString "/claim/cut.py") 449, .int 112 0, .int 5 0, .int 0 0, .int 0 0, .int 3 0, .ref 200, .bool true, .int 181 0, .ref 201, .none, .ref 202, .ref 203, .ref 204, .int 457 0, .int 112 0, .str (Str.ofString "/claim/cut.py") 458] } : Obj)) ::
  (nat_lit 206, (fn "_law_other_readings" sORd "law_vellum_k29_notes_refused" 366 205 : Obj)) ::
  (nat_lit 212, ({ cls := .type "code", data := .fields #[.str (Str.ofString "_law_spoilt") 460, .str (Str.ofString "_law_spoilt") 461, .str (Str.ofString "/claim/cut.py") 462, .int 126 0, .int 3 0, .int 0 0, .int 0 0, .int 3 0, .ref 207, .bool true, .int 181 0, .ref 208, .none, .ref 209, .ref 210, .ref 211, .int 473 0, .int 126 0, .str (Str.ofString "/claim/cut.py") 474] } : Obj)) ::
  (nat_lit 213, (fn "_law_spoilt" sSpo "law_vellum_k29_notes_refused" 366 212 : Obj)) ::
  (nat_lit 219, ({ cls := .type "code", data := .fields #[.str (Str.ofString "_law_kind_of") 476, .str (Str.ofString "_law_kind_of") 477, .str (Str.ofString "/claim/cut.py") 478, .int 143 0, .int 1 0, .int 0 0, .int 0 0, .int 3 0, .ref 214, .bool true, .int 181 0, .ref 215, .none, .ref 216, .ref 217, .ref 218, .int 480 0, .int 143 0, .str (Str.ofString "/claim/cut.py") 481] } : Obj)) ::
  (nat_lit 220, (fn "_law_kind_of" sKO "law_vellum_k29_notes_refused" 366 219 : Obj)) ::
  (nat_lit 226, ({ cls := .type "code", data := .fields #[.str (Str.ofString "_law_asked") 483, .str (Str.ofString "_law_asked") 484, .str (Str.ofString "/claim/cut.py") 485, .int 149 0, .int 3 0, .int 0 0, .int 0 0, .int 3 0, .ref 221, .bool true, .int 181 0, .ref 222, .none, .ref 223, .ref 224, .ref 225, .int 492 0, .int 149 0, .str (Str.ofString "/claim/cut.py") 493] } : Obj)) ::
  (nat_lit 227, (fn "_law_asked" sAsk "law_vellum_k29_notes_refused" 366 226 : Obj)) ::
  (nat_lit 231, (co "law" 495 496 497 159 1 3 228 181 229 230 498 159 499 : Obj)) ::
  (nat_lit 232, (fn "law" sLaw "law_vellum_k29_notes_refused" 366 231 : Obj)) ::
  []
noncomputable def view : Program := { PySem.Challenge.pw_vellum_k29_notes_refused with main := { (PySem.Challenge.pw_vellum_k29_notes_refused).main with body := [top 28] } }
abbrev ad : List Addr := nat_lit 2 :: nat_lit 3 :: nat_lit 23 :: nat_lit 24 :: nat_lit 25 :: nat_lit 36 :: nat_lit 37 :: nat_lit 48 :: nat_lit 49 :: nat_lit 60 :: nat_lit 61 :: nat_lit 72 :: nat_lit 73 :: nat_lit 84 :: nat_lit 85 :: nat_lit 96 :: nat_lit 97 :: nat_lit 108 :: nat_lit 109 :: nat_lit 120 :: nat_lit 121 :: nat_lit 129 :: nat_lit 130 :: nat_lit 136 :: nat_lit 137 :: nat_lit 141 :: nat_lit 142 :: nat_lit 148 :: nat_lit 149 :: nat_lit 155 :: nat_lit 156 :: nat_lit 162 :: nat_lit 163 :: nat_lit 167 :: nat_lit 168 :: nat_lit 174 :: nat_lit 175 :: nat_lit 179 :: nat_lit 180 :: nat_lit 184 :: nat_lit 185 :: nat_lit 191 :: nat_lit 192 :: nat_lit 198 :: nat_lit 199 :: nat_lit 205 :: nat_lit 206 :: nat_lit 212 :: nat_lit 213 :: nat_lit 219 :: nat_lit 220 :: nat_lit 226 :: nat_lit 227 :: nat_lit 231 :: nat_lit 232 :: []
theorem ad_hp : ∀ P, ad = (hp P).map (·.1) := fun _ => by kernel_rfl
theorem left : PySem.W.LeftO PySem.Challenge.pw_vellum_k29_notes_refused view [Str.ofString "VellumError", Str.ofString "NoRow", Str.ofString "NoPrices", Str.ofString "NoSlips", Str.ofString "NoNotes", Str.ofString "NoLine", Str.ofString "NoName", Str.ofString "TwiceNamed", Str.ofString "TooMany", Str.ofString "readings_of", Str.ofString "column_back", Str.ofString "collation_back", Str.ofString "_law_cell_at", Str.ofString "_law_draw", Str.ofString "_law_word_by", Str.ofString "_law_pool", Str.ofString "_law_column_by", Str.ofString "_law_same", Str.ofString "_law_readings_of", Str.ofString "_law_notes_of", Str.ofString "_law_other_rows", Str.ofString "_law_other_readings", Str.ofString "_law_spoilt", Str.ofString "_law_kind_of", Str.ofString "_law_asked"] (fun s => PySem.W.xlAt K29.view [] s && PySem.W.recOk (PySem.W.RowW.records (PySem.W.OpenRow.toRowW PySem.Challenge.rw_vellum_k29_notes_refused.row)) s) (PySem.W.Hook.obs (PySem.W.kHook K29.hp K29.ad K29.ad_hp)) (PySem.W.Hook.val (PySem.W.kHook K29.hp K29.ad K29.ad_hp)) 5012 :=
  fun w => by kernel_rfl
end K29
open PySem PySem.W PyProof.Rows
set_option maxRecDepth 100000 in
set_option maxHeartbeats 0 in
theorem PySem.Challenge.cw_vellum_k29_notes_refused_holds : PySem.Challenge.rw_vellum_k29_notes_refused.Holds := by
  w_on
  refine holds_law (by kernel_rfl) fun said => ?_
  refine holds_open (q := K29.view) (loose := [Str.ofString "VellumError", Str.ofString "NoRow", Str.ofString "NoPrices", Str.ofString "NoSlips", Str.ofString "NoNotes", Str.ofString "NoLine", Str.ofString "NoName", Str.ofString "TwiceNamed", Str.ofString "TooMany", Str.ofString "readings_of", Str.ofString "column_back", Str.ofString "collation_back", Str.ofString "_law_cell_at", Str.ofString "_law_draw", Str.ofString "_law_word_by", Str.ofString "_law_pool", Str.ofString "_law_column_by", Str.ofString "_law_same", Str.ofString "_law_readings_of", Str.ofString "_law_notes_of", Str.ofString "_law_other_rows", Str.ofString "_law_other_readings", Str.ofString "_law_spoilt", Str.ofString "_law_kind_of", Str.ofString "_law_asked"]) (Xt := (fun s => PySem.W.xlAt K29.view [] s && PySem.W.recOk (PySem.W.RowW.records (PySem.W.OpenRow.toRowW PySem.Challenge.rw_vellum_k29_notes_refused.row)) s)) (XP := XL K29.view [])
    (YP := Hook.says (PySem.W.kHook K29.hp K29.ad K29.ad_hp)) (N := 5012)
    K29.left (Hook.of _) (Hook.keeps _) (fun s e => xl_of s (Bool.and_eq_true_iff.mp e).1)
    XL.keeps rfl rfl rfl
    (fun s e => recFacts_of (Bool.and_eq_true_iff.mp e).2) rfl said
    (by decide +kernel)
    ⟨rfl, rfl, rfl, rfl, rfl, by decide +kernel⟩ ?hw ?hc
  case hw => w_witness2
  k_fill
  refine K29.walk (l := PySem.Challenge.rw_vellum_k29_notes_refused) rfl rfl (fun w h Y => PySem.W.kIn_of Y) ?F
  case F =>
    intro w mg fa h KX G hmg
    refine' K29.all_mk KX G hmg ?aRdf ?lRdf ?cRdf ?kRdf ?aCB ?lCB ?cCB ?kCB ?aOB ?lOB ?cOB ?kOB ?aCell ?lCell ?cCell ?kCell ?aDraw ?lDraw ?cDraw ?kDraw ?aWordBy ?lWordBy ?cWordBy ?kWordBy ?aPool ?lPool ?cPool ?kPool ?aCol ?lCol ?cCol ?kCol ?aSame ?lSame ?cSame ?kSame ?aRd ?lRd ?cRd ?kRd ?aNts ?lNts ?cNts ?kNts ?aOR ?lOR ?cOR ?kOR ?aORd ?lORd ?cORd ?kORd ?aSpo ?lSpo ?cSpo ?kSpo ?aKO ?lKO ?cKO ?kKO ?aAsk ?lAsk ?cAsk ?kAsk ?aLaw ?lLaw ?cLaw ?kLaw ?gVellumError ?gNoRow ?gNoPrices ?gNoSlips ?gNoNotes ?gNoLine ?gNoName ?gTwiceNamed ?gTooMany ?blen ?brange ?bisinstance ?btuple ?bstr ?bint ?bbool ?ball ?benumerate ?breversed ?bsorted ?bValueError ?vVellumError ?vNoNotes ?pNoNotes ?oNoNotes ?qNoNotes ?rNoNotes ?sNoNotes ?tNoNotes ?uNoNotes ?h1 ?i1 ?i2 ?i4 ?j1 ?j2 ?j3 ?i6 ?j4
    (case aRdf => k_is)
    (case lRdf => k_is)
    (case cRdf => k_is)
    (case kRdf => k_is)
    (case aCB => k_is)
    (case lCB => k_is)
    (case cCB => k_is)
    (case kCB => k_is)
    (case aOB => k_is)
    (case lOB => k_is)
    (case cOB => k_is)
    (case kOB => k_is)
    (case aCell => k_is)
    (case lCell => k_is)
    (case cCell => k_is)
    (case kCell => k_is)
    (case aDraw => k_is)
    (case lDraw => k_is)
    (case cDraw => k_is)
    (case kDraw => k_is)
    (case aWordBy => k_is)
    (case lWordBy => k_is)
    (case cWordBy => k_is)
    (case kWordBy => k_is)
    (case aPool => k_is)
    (case lPool => k_is)
    (case cPool => k_is)
    (case kPool => k_is)
    (case aCol => k_is)
    (case lCol => k_is)
    (case cCol => k_is)
    (case kCol => k_is)
    (case aSame => k_is)
    (case lSame => k_is)
    (case cSame => k_is)
    (case kSame => k_is)
    (case aRd => k_is)
    (case lRd => k_is)
    (case cRd => k_is)
    (case kRd => k_is)
    (case aNts => k_is)
    (case lNts => k_is)
    (case cNts => k_is)
    (case kNts => k_is)
    (case aOR => k_is)
    (case lOR => k_is)
    (case cOR => k_is)
    (case kOR => k_is)
    (case aORd => k_is)
    (case lORd => k_is)
    (case cORd => k_is)
    (case kORd => k_is)
    (case aSpo => k_is)
    (case lSpo => k_is)
    (case cSpo => k_is)
    (case kSpo => k_is)
    (case aKO => k_is)
    (case lKO => k_is)
    (case cKO => k_is)
    (case kKO => k_is)
    (case aAsk => k_is)
    (case lAsk => k_is)
    (case cAsk => k_is)
    (case kAsk => k_is)
    (case aLaw => k_is)
    (case lLaw => k_is)
    (case cLaw => k_is)
    (case kLaw => k_is)
    (case gVellumError => k_is)
    (case gNoRow => k_is)
    (case gNoPrices => k_is)
    (case gNoSlips => k_is)
    (case gNoNotes => k_is)
    (case gNoLine => k_is)
    (case gNoName => k_is)
    (case gTwiceNamed => k_is)
    (case gTooMany => k_is)
    (case blen => k_is)
    (case brange => k_is)
    (case bisinstance => k_is)
    (case btuple => k_is)
    (case bstr => k_is)
    (case bint => k_is)
    (case bbool => k_is)
    (case ball => k_is)
    (case benumerate => k_is)
    (case breversed => k_is)
    (case bsorted => k_is)
    (case bValueError => k_is)
    (case vVellumError => k_exc)
    (case vNoNotes => k_exc)
    (case pNoNotes => k_is)
    (case oNoNotes => k_is)
    (case qNoNotes => k_is)
    (case rNoNotes => k_is)
    (case sNoNotes => k_is)
    (case tNoNotes => k_is)
    (case uNoNotes => k_is)
    (case h1 => k_is)
    (case i1 => kit_is)
    (case i2 => kit_is)
    (case i4 => kit_is)
    (case j1 => kit_is)
    (case j2 => kit_is)
    (case j3 => kit_is)
    (case i6 => kit_is)
    (case j4 => kit_is)
